import Derived.Test.YtfpphhbpoaobfaaGreatDoorGLrB
import Derived.Lib.AppendZeros
namespace Go.Proofs.YtfpphhbpoaobfaaGreatDoor
namespace Lr
open Go.RowKit
set_option linter.unusedVariables false
set_option maxRecDepth 100000

def sprB : List UInt8 := [115, 112, 97, 114, 101]
/-- The record behind the copy's end. -/
def zR : RX := (-77, [], none, 0, [])
theorem info_pair : (Tryz.prog.info? 46).map (fun i => (i.zero, i.size, i.bytes)) = some (some (.agg #[.string ⟨#[]⟩, .string ⟨#[]⟩]), 2, 32) := by kernel_rfl
theorem info_rec : (Tryz.prog.info? 36).map (fun i => (i.zero, i.size, i.bytes)) = some (some (.agg #[.int .i64 0, .string ⟨#[]⟩, .slice none 0 0]), 3, 48) := by kernel_rfl
theorem KDp : Kd 46 34 2 32 pV := by
  obtain ⟨i0, hi, hz0, hz1, hz2⟩ := info_parts info_pair
  exact ⟨Tryz.underlying34, ⟨i0, _, hi, hz0, hz1, hz2, rfl⟩, by decide, by decide, pV_len, fun x u hu => by simp [pV] at hu; rcases hu with rfl | rfl <;> rfl⟩
theorem KDr : Kd 36 28 3 48 rV := by
  obtain ⟨i0, hi, hz0, hz1, hz2⟩ := info_parts info_rec
  exact ⟨Tryz.underlying28, ⟨i0, _, hi, hz0, hz1, hz2, rfl⟩, by decide, by decide, rV_len, fun x u hu => by simp [rV] at hu; rcases hu with rfl | rfl | rfl <;> rfl⟩
theorem elP : Tryz.prog.underlying 34 = some (.slice (Tryz.prog.elem 34)) := by kernel_rfl
theorem szP (W : World) : (Go.sizeOf (Tryz.prog.elem 34)).run Tryz.prog W = .ok 2 W := by kernel_rfl
theorem elR : Tryz.prog.underlying 28 = some (.slice (Tryz.prog.elem 28)) := by kernel_rfl
theorem szR (W : World) : (Go.sizeOf (Tryz.prog.elem 28)).run Tryz.prog W = .ok 3 W := by kernel_rfl
theorem halfP (a : Option Addr) (n c k : Nat) (z : Int) (hz : z = (k : Int)) (hk : k ≤ c) (W : World) : (Instr.sliceAt 34 (.slice a n c) none (some (.int .i64 z)) none).run Tryz.prog W = .ok (.slice a k c) W := by
  subst hz
  rw [run_sliceAt_slice _ _ _ _ _ _ elP, run_slice_h _ _ _ _ _ elP _ _ (Int.natCast_nonneg _) (Int.ofNat_le.2 hk), szP]
  simp [Result.andThen, sliced]
  intro h
  cases a with
  | none => rfl
  | some x => simp [Addr.add]
theorem halfR (a : Option Addr) (n c k : Nat) (z : Int) (hz : z = (k : Int)) (hk : k ≤ c) (W : World) : (Instr.sliceAt 28 (.slice a n c) none (some (.int .i64 z)) none).run Tryz.prog W = .ok (.slice a k c) W := by
  subst hz
  rw [run_sliceAt_slice _ _ _ _ _ _ elR, run_slice_h _ _ _ _ _ elR _ _ (Int.natCast_nonneg _) (Int.ofNat_le.2 hk), szR]
  simp [Result.andThen, sliced]
  intro h
  cases a with
  | none => rfl
  | some x => simp [Addr.add]
/-- A record's pairs, of the copy's own, the mark behind them. -/
def PO (B : Nat) (r : RX) (W : World) : Prop := ∃ g, r.2.2.1 = some ⟨g, 0, none⟩ ∧ GOwn 46 2 pV W B (.slice (some ⟨g, 0, none⟩) (r.2.2.2.2.length + 1) r.2.2.2.1) (r.2.2.2.2 ++ [(sprB, r.2.1)])
theorem PO.below {B : Nat} {r : RX} {W W' : World} (h : PO B r W) (hb : Below W.heap.size W W') : PO B r W' := by
  obtain ⟨g, e, h1⟩ := h
  exact ⟨g, e, h1.below hb⟩
/-- Through the writing of a box that is no row of it. -/
theorem PO.set {B : Nat} {r : RX} {W : World} (h : PO B r W) (x j : Nat) (v : Value) (hx : W.heap.size ≤ x ∨ ∀ g, r.2.2.1 = some ⟨g, 0, none⟩ → g ≠ x) : PO B r (W.setCell ⟨x, j, none⟩ v) := by
  obtain ⟨g, e, h1⟩ := h
  refine ⟨g, e, owns_same h1 (fun g' hg => ?_)⟩
  injection hg with hg
  subst hg
  refine Below.heap_setCell _ _ _ _ (show g ≠ x from ?_)
  rcases hx with hx | hx
  · have hlt : g < W.heap.size := (World.ownsRow.lt h1 g rfl).2
    omega
  · exact hx _ e
theorem PO.grown {B C : Nat} {r : RX} {W W' : World} {v : Value} {Os : List RX} (h : PO B r W) (ho : GOwn 36 3 rV W C v Os) (hg : W.grownBy W' v.ownBlock) : PO B r W' := by
  obtain ⟨g, e, h1⟩ := h
  refine ⟨g, e, owns_same h1 (fun g' hg' => hg.block g' (World.ownsRow.lt h1 g' hg').2 (fun e' => ?_))⟩
  exact owns_apart (show W.ownsRow B 46 2 _ _ _ from h1) (show W.ownsRow C 36 3 _ _ _ from ho) (by decide) hg' e'.symm
/-- What the loop of copied has laid. -/
def CpI (w : World) (L : List RX) (v : Value) (Os : List RX) (W : World) : Prop :=
  GOwn 36 3 rV W w.heap.size v Os ∧ Os.length ≤ L.length ∧ (∀ i (h : i < Os.length) (h' : i < L.length), Os[i].1 = L[i].1 ∧ said Os[i] = said L[i]) ∧ (∀ r ∈ Os, PO w.heap.size r W) ∧ Below w.heap.size w W
/-- One round of it. -/
def CpR (w : World) (L : List RX) (ln : Int) (nm : List UInt8) (pa : Option Addr) (pc m j b off : Nat) (oa : Option Addr) (on oc : Nat) (W : World) : Prop :=
  ∃ W1 v1 w1 g2 cap2 w2 W3 a3 n3 c3 w3 Os',
    W.alloc (.cells #[.int .i64 ln, .string (S nm), .slice pa m pc] 36) = W1 ∧
    (W1.cell? ⟨W.heap.size, 1, none⟩ = some (.string (S nm)) ∧ W1.cell? ⟨W.heap.size, 2, none⟩ = some (.slice pa m pc)) ∧
    (Builtin.append_ #[34, 34] 34 #[.slice none 0 0, .slice pa m pc]).run Tryz.prog W1 = .ok v1 w1 ∧
    w1.cell? ⟨W.heap.size, 1, none⟩ = some (.string (S nm)) ∧
    (Builtin.append_ #[34, 34] 34 #[v1, .slice (some ⟨w1.heap.size, 0, none⟩) 1 1]).run Tryz.prog (w1.alloc (.cells #[.string (S sprB), .string (S nm)] 46)) = .ok (.slice (some ⟨g2, 0, none⟩) (m + 1) cap2) w2 ∧
    w2.cell? ⟨b, off + j * 3 + 2, none⟩ = some (.slice pa m pc) ∧
    (∀ X, (Instr.sliceAt 34 (.slice (some ⟨g2, 0, none⟩) (m + 1) cap2) none (some (.int .i64 (m : Int))) none).run Tryz.prog X = .ok (.slice (some ⟨g2, 0, none⟩) m cap2) X) ∧
    (w2.cell? ⟨W.heap.size, 2, none⟩ = some (.slice pa m pc) ∧ w2.frozen? ⟨W.heap.size, 2, none⟩ = false) ∧
    w2.setCell ⟨W.heap.size, 2, none⟩ (.slice (some ⟨g2, 0, none⟩) m cap2) = W3 ∧
    (W3.cell? ⟨W.heap.size, 0, none⟩ = some (.int .i64 ln) ∧ W3.cell? ⟨W.heap.size, 1, none⟩ = some (.string (S nm)) ∧ W3.cell? ⟨W.heap.size, 2, none⟩ = some (.slice (some ⟨g2, 0, none⟩) m cap2)) ∧
    (Builtin.append_ #[28, 28] 28 #[.slice oa on oc, .slice (some ⟨W3.heap.size, 0, none⟩) 1 1]).run Tryz.prog (W3.alloc (.cells #[.int .i64 ln, .string (S nm), .slice (some ⟨g2, 0, none⟩) m cap2] 36)) = .ok (.slice a3 n3 c3) w3 ∧
    List.length Os' = j + 1 ∧ CpI w L (.slice a3 n3 c3) Os' w3
theorem cp_round {w W : World} {L Os : List RX} {sa oa : Option Addr} {on oc j : Nat} (hr : RRow w sa L) (hz : wt (L.map said) ≤ 1048576) (hQ : Os.length = j ∧ CpI w L (.slice oa on oc) Os W) (hj : j < L.length) :
    ∃ b off, sa = some ⟨b, off, none⟩ ∧ (W.cell? ⟨b, off + j * 3, none⟩ = some (.int .i64 L[j].1) ∧ W.cell? ⟨b, off + j * 3 + 1, none⟩ = some (.string (S L[j].2.1)) ∧ W.cell? ⟨b, off + j * 3 + 2, none⟩ = some (.slice L[j].2.2.1 L[j].2.2.2.2.length L[j].2.2.2.1)) ∧ CpR w L L[j].1 L[j].2.1 L[j].2.2.1 L[j].2.2.2.1 L[j].2.2.2.2.length j b off oa on oc W := by
  obtain ⟨q1, i1, i2, i3, i4, i5⟩ := hQ
  have hRw := hr.below i5
  obtain ⟨b, off, rfl, c1, c2, c3⟩ := rrow_at hRw j hj
  refine ⟨b, off, rfl, ⟨c1, c2, c3⟩, ?_⟩
  have hpr := (hRw.2 _ (List.getElem_mem hj)).1
  have hwj : wRc (said L[j]) ≤ 1048576 := Nat.le_trans (wr_le _ _ (List.mem_map_of_mem (List.getElem_mem hj))) hz
  have hml : L[j].2.2.2.2.length ≤ 1048576 := Nat.le_trans (wp_len (said L[j])) hwj
  have hLl : L.length ≤ 1048576 := by have := wt_len (L.map said); rw [List.length_map] at this; omega
  generalize hLj : L[j] = r at *
  obtain ⟨ln, nm, pa, pc, ps⟩ := r
  dsimp only at c1 c2 c3 hpr hml
  obtain ⟨W1, hW1⟩ : ∃ W1, W.alloc (.cells #[.int .i64 ln, .string (S nm), .slice pa ps.length pc] 36) = W1 := ⟨_, rfl⟩
  have b01 : Below W.heap.size W W1 := by rw [← hW1]; exact (Below.refl _ _).alloc (Nat.le_refl _) _
  have s1 : W1.heap.size = W.heap.size + 1 := by rw [← hW1]; simp
  have hx1 : W1.heap[W.heap.size]? = some (.cells #[.int .i64 ln, .string (S nm), .slice pa ps.length pc] 36 (0, 0)) := by rw [← hW1]; exact heap_alloc_new _ _
  obtain ⟨v1, w1, e1, o1, g1, b1⟩ := append_gen KDp W1 W1.heap.size (.slice none 0 0) [] ps pa ps.length pc (GOwn.nil _ _ _ _ _) (hpr.below pV_len b01) rfl (Nat.le_refl _) (by simp; omega)
  rw [List.nil_append] at o1
  have hx2 : w1.heap[W.heap.size]? = some (.cells #[.int .i64 ln, .string (S nm), .slice pa ps.length pc] 36 (0, 0)) := by rw [b1.block _ (by omega)]; exact hx1
  have ba : Below W1.heap.size w1 (w1.alloc (.cells #[.string (S sprB), .string (S nm)] 46)) := (Below.refl _ _).alloc b1.size _
  have o1a : GOwn 46 2 pV (w1.alloc (.cells #[.string (S sprB), .string (S nm)] 46)) W1.heap.size v1 ps := o1.below ((Below.refl _ _).alloc (Nat.le_refl _) _)
  obtain ⟨v2, w2, e2, o2, g2', b2⟩ := append_gen KDp (w1.alloc (.cells #[.string (S sprB), .string (S nm)] 46)) W1.heap.size v1 ps [(sprB, nm)] (some ⟨w1.heap.size, 0, none⟩) 1 1 o1a (GRow.one pV w1 46 (sprB, nm)) rfl (by have := b1.size; simp; omega) (by simp; omega)
  obtain ⟨g2, cap2, hv2, hc2, hm2, hg2, hgs2⟩ : ∃ g cap, v2 = .slice (some ⟨g, 0, none⟩) (ps.length + 1) cap ∧ ps.length + 1 ≤ cap ∧ cap ≤ maxLen ∧ W1.heap.size ≤ g ∧ g < w2.heap.size := by
    rcases owns_form o2 with ⟨_, h0⟩ | ⟨g, cap, e, h1, h2, h3, h4⟩
    · simp at h0
    · exact ⟨g, cap, by rw [e]; simp, by simpa using h1, h2, h3, h4⟩
  subst hv2
  have b12 : Below W1.heap.size W1 w2 := b1.trans (ba.trans b2)
  have b02 : Below W.heap.size W w2 := b01.trans (b12.mono (by omega))
  have hx3 : w2.heap[W.heap.size]? = some (.cells #[.int .i64 ln, .string (S nm), .slice pa ps.length pc] 36 (0, 0)) := by rw [b12.block _ (by omega)]; exact hx1
  obtain ⟨W3, hW3⟩ : ∃ W3, w2.setCell ⟨W.heap.size, 2, none⟩ (.slice (some ⟨g2, 0, none⟩) ps.length cap2) = W3 := ⟨_, rfl⟩
  have hx4 : W3.heap[W.heap.size]? = some (.cells #[.int .i64 ln, .string (S nm), .slice (some ⟨g2, 0, none⟩) ps.length cap2] 36 (0, 0)) := by rw [← hW3]; exact Go.heap_setCell_same _ _ _ _ _ _ hx3
  have hk3 : ∀ k, k ≠ W.heap.size → W3.heap[k]? = w2.heap[k]? := fun k hk => by rw [← hW3]; exact Below.heap_setCell _ _ _ _ hk
  have s3 : W3.heap.size = w2.heap.size := by rw [← hW3, World.size_setCell]
  have b03 : Below W.heap.size W W3 := by rw [← hW3]; exact b02.setCell (p := ⟨W.heap.size, 2, none⟩) (Nat.le_refl _) _
  have hO3 : GOwn 36 3 rV W3 w.heap.size (.slice oa on oc) Os := i1.below b03
  have hws : w.heap.size ≤ W.heap.size := i5.size
  have hO3a : GOwn 36 3 rV (W3.alloc (.cells #[.int .i64 ln, .string (S nm), .slice (some ⟨g2, 0, none⟩) ps.length cap2] 36)) w.heap.size (.slice oa on oc) Os := hO3.below ((Below.refl _ _).alloc (Nat.le_refl _) _)
  obtain ⟨v3, w3, e3, o3, g3, b3⟩ := append_gen KDr (W3.alloc (.cells #[.int .i64 ln, .string (S nm), .slice (some ⟨g2, 0, none⟩) ps.length cap2] 36)) w.heap.size (.slice oa on oc) Os [((ln, nm, some ⟨g2, 0, none⟩, cap2, ps) : RX)] (some ⟨W3.heap.size, 0, none⟩) 1 1 hO3a (GRow.one rV W3 36 (ln, nm, some ⟨g2, 0, none⟩, cap2, ps)) rfl (by have := b03.size; simp; omega) (by simp; omega)
  obtain ⟨a3, c3', hv3, _, _, _⟩ := o3.row rV_len
  subst hv3
  have ba3 : Below W3.heap.size W3 (W3.alloc (.cells #[.int .i64 ln, .string (S nm), .slice (some ⟨g2, 0, none⟩) ps.length cap2] 36)) := (Below.refl _ _).alloc (Nat.le_refl _) _
  refine ⟨W1, v1, w1, g2, cap2, w2, W3, a3, _, c3', w3, Os ++ [(ln, nm, some ⟨g2, 0, none⟩, cap2, ps)], hW1, ⟨?_, ?_⟩, e1, ?_, e2, ?_, fun X => halfP (some ⟨g2, 0, none⟩) (ps.length + 1) cap2 ps.length _ rfl (by omega) X, ⟨?_, ?_⟩, hW3, ⟨?_, ?_, ?_⟩, e3, by simp [q1], o3, by simp; omega, ?_, fun x hx => ?_, ?_⟩
  · rw [cell_of_row _ _ _ _ _ _ hx1]; rfl
  · rw [cell_of_row _ _ _ _ _ _ hx1]; rfl
  · rw [cell_of_row _ _ _ _ _ _ hx2]; rfl
  · rw [b02.cell (World.block_lt_of_cell? W _ c3)]; exact c3
  · rw [cell_of_row _ _ _ _ _ _ hx3]; rfl
  · exact Go.frozen_of_row _ _ _ _ _ hx3
  · rw [cell_of_row _ _ _ _ _ _ hx4]; rfl
  · rw [cell_of_row _ _ _ _ _ _ hx4]; rfl
  · rw [cell_of_row _ _ _ _ _ _ hx4]; rfl
  · intro i hi hi'
    by_cases e : i < Os.length
    · rw [List.getElem_append_left e]
      exact i3 i e hi'
    · have e2 : i = j := by simp at hi; omega
      subst e2
      rw [List.getElem_append_right (by omega)]
      have e3 : i - Os.length = 0 := by omega
      simp only [e3, List.getElem_cons_zero, hLj]
      exact ⟨by trivial, by trivial⟩
  · rcases List.mem_append.1 hx with hx | hx
    · exact (((i4 x hx).below b03).below ba3).grown hO3a g3
    · rw [List.mem_singleton] at hx
      subst hx
      have p2 : PO w.heap.size (ln, nm, some ⟨g2, 0, none⟩, cap2, ps) w2 := ⟨g2, rfl, owns_base o2 (by omega)⟩
      have p3 : PO w.heap.size (ln, nm, some ⟨g2, 0, none⟩, cap2, ps) W3 := by rw [← hW3]; exact p2.set _ _ _ (Or.inr (fun g e => by injection e with e; injection e with e; omega))
      exact (p3.below ba3).grown hO3a g3
  · exact ((i5.trans (b03.mono hws)).trans (ba3.mono (by have := b03.size; omega))).trans b3

/-- What copied answers. -/
def CpQ (w : World) (L : List RX) (n : Nat) (a : Option Addr) (c : Nat) (Os : List RX) (w' : World) : Prop := Os.length = n ∧ n + 1 ≤ c ∧ c ≤ maxLen ∧ GRow 3 rV w' a (Os ++ [zR]) ∧ (∀ i (h : i < Os.length) (h' : i < L.length), Os[i].1 = L[i].1 ∧ said Os[i] = said L[i]) ∧ (∀ r ∈ Os, PO w.heap.size r w') ∧ Below w.heap.size w w'
set_option maxHeartbeats 2000000 in
theorem copied_any (sa : Option Addr) (sc : Nat) (L : List RX) (n : Nat) (w : World) (hn : L.length = n) (hr : RRow w sa L) (hz : wt (L.map said) ≤ 1048576) :
    Calls Tryz.prog 17 #[.slice sa n sc] w fun e w' => ∃ a c Os, e = .returned (.slice a n c) ∧ CpQ w L n a c Os w' := by
  have hlen := wt_len (L.map said)
  rw [List.length_map] at hlen
  have nb : (n : Int) ≤ 1048576 := by omega
  have hH : Hid (RRow w sa L ∧ wt (L.map said) ≤ 1048576) := ⟨hr, hz⟩
  have hn' : Hid (L.length = n) := hn
  clear hr hz hlen hn
  go_enter Tryz.func17, Tryz.ntmps17
  go_wp2_with fail
  go_loopw [3, 4] (fun v iv wr => ∃ (j : Nat) (Os : List RX) (oa : Option Addr) (on oc : Nat), iv = .int .i64 (j : Int) ∧ v = .slice oa on oc ∧ j ≤ n ∧ Hid (Os.length = j ∧ CpI w L (.slice oa on oc) Os wr)) (fun _ iv _ => n - (intOf iv).toNat)
  case atStart => exact ⟨0, [], none, 0, 0, rfl, rfl, Nat.zero_le _, rfl, GOwn.nil _ _ _ _ _, Nat.zero_le _, fun i h => by simp at h, fun r hr => by simp at hr, Below.refl _ _⟩
  case round =>
    obtain ⟨j, Os, oa, on, oc, rfl, rfl, hj, hQ⟩ := hrel
    have j0 : (0 : Int) ≤ (j : Int) := Int.natCast_nonneg _
    by_cases hlt : j < n
    · have j1 : (j : Int) < (n : Int) := Int.ofNat_lt.2 hlt
      have hjL : j < L.length := by rw [hn'.out]; exact hlt
      obtain ⟨b, off, rfl, ⟨c1, c2, c3⟩, W1, v1, w1, g2, cap2, w2, W3, a3, n3, c3', w3, Os', hW1, ⟨d1, d2⟩, e1, d3, e2, d4, hsl, ⟨d5, d6⟩, hW3, ⟨d7, d8, d9⟩, e3, l3, s3⟩ := cp_round hH.out.1 hH.out.2 hQ.out hjL
      have hfin : Hid (Os'.length = j + 1 ∧ CpI w L (.slice a3 n3 c3') Os' w3) := ⟨l3, s3⟩
      have hlt' : Hid (j < n) := hlt
      have hsp : S sprB = { data := #[115, 112, 97, 114, 101] } := rfl
      rw [hsp] at e2
      generalize hxx : L[j] = r at *
      obtain ⟨ln, nm, pa, pc, ps⟩ := r
      dsimp only at c1 c2 c3 hW1 d1 d2 e1 d3 e2 d4 hsl d5 hW3 d7 d8 d9 e3
      generalize S nm = N at *
      generalize ps.length = m at *
      clear l3 s3 hxx hjL hlt hj hQ hsp
      go_wp2_with (first
        | (at_builtin; refine Lib.wpList_append_run _ rfl _ _ _ _ rfl _ _ rfl rfl _ _ e1 ?_; clear e1)
        | (at_builtin; refine Lib.wpList_append_run _ rfl _ _ _ _ rfl _ _ rfl rfl _ _ e2 ?_; clear e2)
        | (at_builtin; refine Lib.wpList_append_run _ rfl _ _ _ _ rfl _ _ rfl rfl _ _ e3 ?_; clear e3))
      go_roundw
      case rel => exact ⟨j + 1, Os', _, _, _, by simp, rfl, hlt'.out, hfin⟩
      case measure => have := hlt'.out; simp [intOf]; omega
    · have e : n = j := by omega
      subst e
      have j1 : ¬ (n : Int) < (n : Int) := by omega
      obtain ⟨q1, i1, i2, i3, i4, i5⟩ := hQ.out
      have i1a : GOwn 36 3 rV (wr.alloc (.cells #[.int .i64 (-77), .string ⟨#[]⟩, .slice none 0 0] 36)) w.heap.size (.slice oa on oc) Os := i1.below ((Below.refl _ _).alloc (Nat.le_refl _) _)
      have ba : Below wr.heap.size wr (wr.alloc (.cells #[.int .i64 (-77), .string ⟨#[]⟩, .slice none 0 0] 36)) := (Below.refl _ _).alloc (Nat.le_refl _) _
      obtain ⟨v4, w4, e4, o4, g4, b4⟩ := append_gen KDr (wr.alloc (.cells #[.int .i64 (-77), .string ⟨#[]⟩, .slice none 0 0] 36)) w.heap.size (.slice oa on oc) Os [zR] (some ⟨wr.heap.size, 0, none⟩) 1 1 i1a (GRow.one rV wr 36 zR) rfl (by have := i5.size; simp; omega) (by simp; omega)
      obtain ⟨a4, c4, rfl, hc4, hm4, r4⟩ := o4.row rV_len
      have hl4 : (Os ++ [zR]).length = n + 1 := by simp [q1]
      rw [hl4] at e4 hc4
      have hsl : ∀ X, (Instr.sliceAt 28 (.slice a4 (n + 1) c4) none (some (.int .i64 (n : Int))) none).run Tryz.prog X = .ok (.slice a4 n c4) X := fun X => halfR a4 (n + 1) c4 n _ rfl (by omega) X
      have hfin : Hid (CpQ w L n a4 c4 Os w4) :=
        ⟨q1, hc4, hm4, r4, i3, fun r hr => ((i4 r hr).below ba).grown i1a g4, (i5.trans (ba.mono i5.size)).trans b4⟩
      clear q1 i1 i2 i3 i4 i5 i1a ba o4 g4 b4 hc4 hm4 r4 hl4 hQ hlt hj
      go_wp2_with (at_builtin; refine Lib.wpList_append_run _ rfl _ _ _ _ rfl _ _ rfl rfl _ _ e4 ?_; clear e4)
      go_ret
      exact ⟨a4, c4, rfl, Os, hfin.out⟩
end Lr
end Go.Proofs.YtfpphhbpoaobfaaGreatDoor
