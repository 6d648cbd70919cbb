import Derived.Test.YthpfnajgbocpnaaPtSts
namespace Go.Proofs.Ythpfnajgbocpnaa
namespace Pt
open Go.RowKit Go.Sort Go.Lib
open PtMath (Inc setOf cnt)
open PtHpM (Hd)
set_option linter.unusedVariables false
set_option maxRecDepth 100000
open PtT (Rk TB en)
variable {Tk : PtT.Rk} {sp : Nat}

/-- A list with an element in its spare room. -/
def Spd (Tk : PtT.Rk) (sp : Nat) (W : World) (B : Nat) (h : Hd) : Prop := ∃ g, h.1 = some ⟨g, 0, none⟩ ∧ OwnI Tk W B (.slice (some ⟨g, 0, none⟩) (h.2.2.length + 1) h.2.1) (h.2.2 ++ [sp])
theorem Spd.below {W W' : World} {B : Nat} {h : Hd} (hs : Spd Tk sp W B h) (hb : Below W.heap.size W W') : Spd Tk sp W' B h := by
  obtain ⟨g, e, h1⟩ := hs
  exact ⟨g, e, ownI_below h1 hb⟩
theorem Spd.kept {W W' : World} {B C : Nat} {h : Hd} {v : Value} {H : List Hd} (hs : Spd Tk sp W B h) (hl : OwnL W C v H) (hg : W.grownBy W' v.ownBlock) : Spd Tk sp W' B h := by
  obtain ⟨g, e, h1⟩ := hs
  refine ⟨g, e, World.ownsRow.kept h1 hg (Or.inr (fun e' => ?_))⟩
  rcases h1.2 with ⟨e1, _⟩ | ⟨g1, cap, cur, e1, _, h4, _⟩
  · cases e1
  · injection e1 with e1
    injection e1 with e1
    injection e1 with e1
    subst e1
    rcases hl.2 with ⟨rfl, _⟩ | ⟨g2, cap2, cur2, rfl, _, h5, _⟩
    · simp [Value.ownBlock] at e'
    · simp [Value.ownBlock] at e'
      subst e'
      rw [h4] at h5
      injection h5 with h5
      injection h5 with _ h5
      exact absurd h5 (by decide)
theorem Spd.rd {W : World} {B : Nat} {h : Hd} (hs : Spd Tk sp W B h) (hl : h.2.2.length ≤ 4194304) : Rd Tk W h.1 h.2.1 h.2.2 := by
  obtain ⟨g, e, h1⟩ := hs
  have hr := (ownI_row h1).1
  refine ⟨fun i hi => ?_, ?_, ?_, by omega⟩
  · obtain ⟨b, off, e1, e2⟩ := hr i (by simp; omega)
    refine ⟨b, off, e.trans e1, ?_⟩
    rw [e2, List.getElem_append_left hi]
  · rcases ownI_form h1 with ⟨e1, _⟩ | ⟨g1, cap, e1, e2, _⟩
    · cases e1
    · injection e1 with _ _ e1; simp at e2; omega
  · rcases ownI_form h1 with ⟨e1, _⟩ | ⟨g1, cap, e1, e2, e3, _⟩
    · cases e1
    · injection e1 with _ _ e1; omega
/-- What spared has laid, of the first k lists. -/
def SpI (Tk : PtT.Rk) (sp : Nat) (w : World) (Ss : List Hd) (v : Value) (Os : List Hd) (W : World) : Prop :=
  OwnL W w.heap.size v Os ∧ Os.length ≤ Ss.length ∧ lsts Os = lsts (Ss.take Os.length) ∧ (∀ h ∈ Os, Spd Tk sp W w.heap.size h) ∧ Below w.heap.size w W


/-- One round of the first loop. -/
def SpdR (Tk : PtT.Rk) (sp : Nat) (w : World) (Ss : List Hd) (x : Hd) (j : Nat) (b off : Nat) (oa : Option Addr) (on oc : Nat) (wr : World) : Prop :=
  ∃ v1 w1 g2 cap2 w2 a3 N3 c3 w3 Os',
    wr.cell? ⟨b, off + j, none⟩ = some (.slice x.1 x.2.2.length x.2.1) ∧
    (Builtin.append_ #[23, 23] 23 #[.slice none 0 0, .slice x.1 x.2.2.length x.2.1]).run Try.prog wr = .ok v1 w1 ∧
    (Builtin.append_ #[23, 23] 23 #[v1, .slice (some ⟨w1.heap.size, 0, none⟩) 1 1]).run Try.prog (w1.alloc (.cells #[.string (TB Tk sp)] 9)) = .ok (.slice (some ⟨g2, 0, none⟩) (x.2.2.length + 1) cap2) w2 ∧
    w2.cell? ⟨b, off + j, none⟩ = some (.slice x.1 x.2.2.length x.2.1) ∧
    (∀ W, (Instr.sliceAt 23 (.slice (some ⟨g2, 0, none⟩) (x.2.2.length + 1) cap2) none (some (.int .i64 (x.2.2.length : Int))) none).run Try.prog W = .ok (.slice (some ⟨g2, 0, none⟩) x.2.2.length cap2) W) ∧
    (Builtin.append_ #[22, 22] 22 #[.slice oa on oc, .slice (some ⟨w2.heap.size, 0, none⟩) 1 1]).run Try.prog (w2.alloc (.cells #[.slice (some ⟨g2, 0, none⟩) x.2.2.length cap2] 23)) = .ok (.slice a3 N3 c3) w3 ∧
    List.length Os' = j + 1 ∧ SpI Tk sp w Ss (.slice a3 N3 c3) Os' w3
theorem spd_round {w wr : World} {Ss Os : List Hd} {sa oa : Option Addr} {on oc j : Nat} (hS : SRow w sa Ss ∧ (∀ x ∈ Ss, Rd Tk w x.1 x.2.1 x.2.2) ∧ tot (lsts Ss) + Ss.length ≤ 4194304) (hQ : Os.length = j ∧ SpI Tk sp w Ss (.slice oa on oc) Os wr) (hjS : j < Ss.length) :
    ∃ b off, sa = some ⟨b, off, none⟩ ∧ SpdR Tk sp w Ss Ss[j] j b off oa on oc wr := by
  obtain ⟨q1, q2, q3, q4, q5, q6⟩ := hQ
  have hsr := hS.1.below q6
  obtain ⟨b, off, rfl, c1⟩ := hsr j hjS
  have hx := (hS.2.1 _ (List.getElem_mem hjS)).below q6
  have hxl : Ss[j].2.2.length ≤ 4194304 := by
    have := tot_take (lsts Ss) (List.mem_map_of_mem (List.getElem_mem hjS))
    have := hS.2.2
    omega
  obtain ⟨v1, w1, e1, o1, b1⟩ := appendI_row wr wr.heap.size (.slice none 0 0) [] Ss[j].2.2 Ss[j].1 Ss[j].2.2.length Ss[j].2.1 (ownI_nil _ _) hx.1 rfl (Nat.le_refl _) (by simp; omega)
  rw [List.nil_append] at o1
  obtain ⟨v2, w2, e2, o2, b2⟩ := appendI_row (w1.alloc (.cells #[.string (TB Tk sp)] 9)) wr.heap.size v1 Ss[j].2.2 [sp] (some ⟨w1.heap.size, 0, none⟩) 1 1 (World.ownsRow.alloc o1 _) (rd_lit w1 [sp] 9 (by simp)).1 rfl (by have := b1.size; simp; omega) (by simp; omega)
  have b12 : Below wr.heap.size wr w2 := b1.trans (((Below.refl _ _).alloc b1.size _).trans b2)
  obtain ⟨g2, cap2, hv2⟩ : ∃ g cap, v2 = .slice (some ⟨g, 0, none⟩) (Ss[j].2.2.length + 1) cap := by
    rcases ownI_form o2 with ⟨_, e⟩ | ⟨g, cap, e, _⟩
    · simp at e
    · exact ⟨g, cap, by rw [e]; simp⟩
  subst hv2
  have hcap : Ss[j].2.2.length ≤ cap2 := by
    rcases ownI_form o2 with ⟨e, _⟩ | ⟨g, cap, e, h9, _⟩
    · cases e
    · injection e with _ _ e; simp at h9; omega
  have hsl : ∀ W, (Instr.sliceAt 23 (.slice (some ⟨g2, 0, none⟩) (Ss[j].2.2.length + 1) cap2) none (some (.int .i64 (Ss[j].2.2.length : Int))) none).run Try.prog W = .ok (.slice (some ⟨g2, 0, none⟩) Ss[j].2.2.length cap2) W := fun W => half_l _ _ cap2 Ss[j].2.2.length _ rfl hcap W
  have hOL := ownL_below (ownL_below q2 b12) ((Below.refl _ w2).alloc (Nat.le_refl _) (.cells #[.slice (some ⟨g2, 0, none⟩) Ss[j].2.2.length cap2] 23))
  have hws : w.heap.size ≤ w2.heap.size := by have := q6.size; have := b12.size; omega
  obtain ⟨v3, w3, e3, o3, g3⟩ := appendL_row (w2.alloc (.cells #[.slice (some ⟨g2, 0, none⟩) Ss[j].2.2.length cap2] 23)) w.heap.size (.slice oa on oc) Os [(some ⟨g2, 0, none⟩, cap2, Ss[j].2.2)] (some ⟨w2.heap.size, 0, none⟩) 1 hOL (srow_lit w2 [(some ⟨g2, 0, none⟩, cap2, Ss[j].2.2)] 23) (by simp; omega) (by have := hS.2.2; simp; omega)
  obtain ⟨a3, c3, rfl, _⟩ := ownL_slice o3
  have c2 : w2.cell? ⟨b, off + j, none⟩ = some (hv Ss[j]) := by rw [b12.cell (World.block_lt_of_cell? wr _ c1)]; exact c1
  refine ⟨b, off, rfl, v1, w1, g2, cap2, w2, a3, _, c3, w3, Os ++ [(some ⟨g2, 0, none⟩, cap2, Ss[j].2.2)], c1, e1, e2, c2, hsl, e3, by simp [q1], o3, by simp; omega, ?_, fun h hh => ?_, ?_⟩
  · simp only [List.length_append, List.length_cons, List.length_nil]
    unfold lsts at q4 ⊢
    rw [q1] at q4 ⊢
    rw [List.map_append, q4, List.take_succ_eq_append_getElem hjS, List.map_append]
    rfl
  · rcases List.mem_append.1 hh with hh | hh
    · exact (((q5 h hh).below b12).below ((Below.refl _ w2).alloc (Nat.le_refl _) _)).kept hOL g3
    · rw [List.mem_singleton] at hh
      subst hh
      have hs2 : Spd Tk sp w2 w.heap.size (some ⟨g2, 0, none⟩, cap2, Ss[j].2.2) := ⟨g2, rfl, ownI_base o2 q6.size⟩
      exact (hs2.below ((Below.refl _ w2).alloc (Nat.le_refl _) _)).kept hOL g3
  · have hb3 := grown_below hOL g3 (by simp; omega)
    exact (q6.trans (b12.mono q6.size)).trans (((Below.refl _ w2).alloc hws _).trans hb3)
end Pt
end Go.Proofs.Ythpfnajgbocpnaa
