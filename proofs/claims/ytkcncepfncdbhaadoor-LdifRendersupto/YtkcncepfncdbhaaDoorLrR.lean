import Derived.Test.YtkcncepfncdbhaaDoorLrV
import Derived.Lib.AppendZeros
import Derived.Laws.StructEq
import Derived.Test.YtkcncepfncdbhaaDoorLrU
import Derived.Test.YtkcncepfncdbhaaDoorRows
import Derived.OpenShut
import Derived.ShutString
import Derived.Deep.Slices
namespace Go.Proofs.YtkcncepfncdbhaaDoor
namespace Lr
open Go.RowKit
set_option linter.unusedVariables false
set_option maxRecDepth 100000

def sprB : List UInt8 := [115, 112, 97, 114, 101]
/-- The record behind the copy's end. -/
def zR : RX := (-77, [], none, 0, [])
theorem info_pair : (Tryd.prog.info? 37).map (fun i => (i.zero, i.size, i.bytes)) = some (some (.agg #[.string ⟨#[]⟩, .string ⟨#[]⟩]), 2, 32) := by kernel_rfl
theorem info_rec : (Tryd.prog.info? 33).map (fun i => (i.zero, i.size, i.bytes)) = some (some (.agg #[.int .i64 0, .string ⟨#[]⟩, .slice none 0 0]), 3, 48) := by kernel_rfl
theorem KDp : Kd 37 31 2 32 pV := by
  obtain ⟨i0, hi, hz0, hz1, hz2⟩ := info_parts info_pair
  exact ⟨Tryd.underlying31, ⟨i0, _, hi, hz0, hz1, hz2, rfl⟩, by decide, by decide, pV_len, fun x u hu => by simp [pV] at hu; rcases hu with rfl | rfl <;> rfl⟩
theorem KDr : Kd 33 22 3 48 rV := by
  obtain ⟨i0, hi, hz0, hz1, hz2⟩ := info_parts info_rec
  exact ⟨Tryd.underlying22, ⟨i0, _, hi, hz0, hz1, hz2, rfl⟩, by decide, by decide, rV_len, fun x u hu => by simp [rV] at hu; rcases hu with rfl | rfl | rfl <;> rfl⟩
theorem elP : Tryd.prog.underlying 31 = some (.slice (Tryd.prog.elem 31)) := by kernel_rfl
theorem szP (W : World) : (Go.sizeOf (Tryd.prog.elem 31)).run Tryd.prog W = .ok 2 W := by kernel_rfl
theorem elR : Tryd.prog.underlying 22 = some (.slice (Tryd.prog.elem 22)) := by kernel_rfl
theorem szR (W : World) : (Go.sizeOf (Tryd.prog.elem 22)).run Tryd.prog W = .ok 3 W := by kernel_rfl
theorem halfP (a : Option Addr) (n c k : Nat) (z : Int) (hz : z = (k : Int)) (hk : k ≤ c) (W : World) : (Instr.sliceAt 31 (.slice a n c) none (some (.int .i64 z)) none).run Tryd.prog W = .ok (.slice a k c) W := by
  subst hz
  rw [run_sliceAt_slice _ _ _ _ _ _ elP, run_slice_h _ _ _ _ _ elP _ _ (Int.natCast_nonneg _) (Int.ofNat_le.2 hk), szP]
  simp [Result.andThen, sliced]
  intro h
  cases a with
  | none => rfl
  | some x => simp [Addr.add]
theorem halfR (a : Option Addr) (n c k : Nat) (z : Int) (hz : z = (k : Int)) (hk : k ≤ c) (W : World) : (Instr.sliceAt 22 (.slice a n c) none (some (.int .i64 z)) none).run Tryd.prog W = .ok (.slice a k c) W := by
  subst hz
  rw [run_sliceAt_slice _ _ _ _ _ _ elR, run_slice_h _ _ _ _ _ elR _ _ (Int.natCast_nonneg _) (Int.ofNat_le.2 hk), szR]
  simp [Result.andThen, sliced]
  intro h
  cases a with
  | none => rfl
  | some x => simp [Addr.add]
/-- A record's pairs, of the copy's own, the mark behind them. -/
def PO (B : Nat) (r : RX) (W : World) : Prop := ∃ g, r.2.2.1 = some ⟨g, 0, none⟩ ∧ GOwn 37 2 pV W B (.slice (some ⟨g, 0, none⟩) (r.2.2.2.2.length + 1) r.2.2.2.1) (r.2.2.2.2 ++ [(sprB, r.2.1)])
theorem PO.below {B : Nat} {r : RX} {W W' : World} (h : PO B r W) (hb : Below W.heap.size W W') : PO B r W' := by
  obtain ⟨g, e, h1⟩ := h
  exact ⟨g, e, h1.below hb⟩
/-- Through the writing of a box that is no row of it. -/
theorem PO.set {B : Nat} {r : RX} {W : World} (h : PO B r W) (x j : Nat) (v : Value) (hx : W.heap.size ≤ x ∨ ∀ g, r.2.2.1 = some ⟨g, 0, none⟩ → g ≠ x) : PO B r (W.setCell ⟨x, j, none⟩ v) := by
  obtain ⟨g, e, h1⟩ := h
  refine ⟨g, e, owns_same h1 (fun g' hg => ?_)⟩
  injection hg with hg
  subst hg
  refine Below.heap_setCell _ _ _ _ (show g ≠ x from ?_)
  rcases hx with hx | hx
  · have hlt : g < W.heap.size := (World.ownsRow.lt h1 g rfl).2
    omega
  · exact hx _ e
theorem PO.grown {B C : Nat} {r : RX} {W W' : World} {v : Value} {Os : List RX} (h : PO B r W) (ho : GOwn 33 3 rV W C v Os) (hg : W.grownBy W' v.ownBlock) : PO B r W' := by
  obtain ⟨g, e, h1⟩ := h
  refine ⟨g, e, owns_same h1 (fun g' hg' => hg.block g' (World.ownsRow.lt h1 g' hg').2 (fun e' => ?_))⟩
  exact owns_apart (show W.ownsRow B 37 2 _ _ _ from h1) (show W.ownsRow C 33 3 _ _ _ from ho) (by decide) hg' e'.symm
/-- What the loop of copied has laid. -/
def CpI (w : World) (L : List RX) (v : Value) (Os : List RX) (W : World) : Prop :=
  GOwn 33 3 rV W w.heap.size v Os ∧ Os.length ≤ L.length ∧ (∀ i (h : i < Os.length) (h' : i < L.length), Os[i].1 = L[i].1 ∧ said Os[i] = said L[i]) ∧ (∀ r ∈ Os, PO w.heap.size r W) ∧ Below w.heap.size w W
/-- One round of it. -/
def CpR (w : World) (L : List RX) (ln : Int) (nm : List UInt8) (pa : Option Addr) (pc m j b off : Nat) (oa : Option Addr) (on oc : Nat) (W : World) : Prop :=
  ∃ W1 v1 w1 g2 cap2 w2 W3 a3 n3 c3 w3 Os',
    W.alloc (.cells #[.int .i64 ln, .string (S nm), .slice pa m pc] 33) = W1 ∧
    (W1.cell? ⟨W.heap.size, 1, none⟩ = some (.string (S nm)) ∧ W1.cell? ⟨W.heap.size, 2, none⟩ = some (.slice pa m pc)) ∧
    (Builtin.append_ #[31, 31] 31 #[.slice none 0 0, .slice pa m pc]).run Tryd.prog W1 = .ok v1 w1 ∧
    w1.cell? ⟨W.heap.size, 1, none⟩ = some (.string (S nm)) ∧
    (Builtin.append_ #[31, 31] 31 #[v1, .slice (some ⟨w1.heap.size, 0, none⟩) 1 1]).run Tryd.prog (w1.alloc (.cells #[.string (S sprB), .string (S nm)] 37)) = .ok (.slice (some ⟨g2, 0, none⟩) (m + 1) cap2) w2 ∧
    w2.cell? ⟨b, off + j * 3 + 2, none⟩ = some (.slice pa m pc) ∧
    (∀ X, (Instr.sliceAt 31 (.slice (some ⟨g2, 0, none⟩) (m + 1) cap2) none (some (.int .i64 (m : Int))) none).run Tryd.prog X = .ok (.slice (some ⟨g2, 0, none⟩) m cap2) X) ∧
    (w2.cell? ⟨W.heap.size, 2, none⟩ = some (.slice pa m pc) ∧ w2.frozen? ⟨W.heap.size, 2, none⟩ = false) ∧
    w2.setCell ⟨W.heap.size, 2, none⟩ (.slice (some ⟨g2, 0, none⟩) m cap2) = W3 ∧
    (W3.cell? ⟨W.heap.size, 0, none⟩ = some (.int .i64 ln) ∧ W3.cell? ⟨W.heap.size, 1, none⟩ = some (.string (S nm)) ∧ W3.cell? ⟨W.heap.size, 2, none⟩ = some (.slice (some ⟨g2, 0, none⟩) m cap2)) ∧
    (Builtin.append_ #[22, 22] 22 #[.slice oa on oc, .slice (some ⟨W3.heap.size, 0, none⟩) 1 1]).run Tryd.prog (W3.alloc (.cells #[.int .i64 ln, .string (S nm), .slice (some ⟨g2, 0, none⟩) m cap2] 33)) = .ok (.slice a3 n3 c3) w3 ∧
    List.length Os' = j + 1 ∧ CpI w L (.slice a3 n3 c3) Os' w3
theorem cp_round {w W : World} {L Os : List RX} {sa oa : Option Addr} {on oc j : Nat} (hr : RRow w sa L) (hz : wt (L.map said) ≤ 1048576) (hQ : Os.length = j ∧ CpI w L (.slice oa on oc) Os W) (hj : j < L.length) :
    ∃ b off, sa = some ⟨b, off, none⟩ ∧ (W.cell? ⟨b, off + j * 3, none⟩ = some (.int .i64 L[j].1) ∧ W.cell? ⟨b, off + j * 3 + 1, none⟩ = some (.string (S L[j].2.1)) ∧ W.cell? ⟨b, off + j * 3 + 2, none⟩ = some (.slice L[j].2.2.1 L[j].2.2.2.2.length L[j].2.2.2.1)) ∧ CpR w L L[j].1 L[j].2.1 L[j].2.2.1 L[j].2.2.2.1 L[j].2.2.2.2.length j b off oa on oc W := by
  obtain ⟨q1, i1, i2, i3, i4, i5⟩ := hQ
  have hRw := hr.below i5
  obtain ⟨b, off, rfl, c1, c2, c3⟩ := rrow_at hRw j hj
  refine ⟨b, off, rfl, ⟨c1, c2, c3⟩, ?_⟩
  have hpr := (hRw.2 _ (List.getElem_mem hj)).1
  have hwj : wRc (said L[j]) ≤ 1048576 := Nat.le_trans (wr_le _ _ (List.mem_map_of_mem (List.getElem_mem hj))) hz
  have hml : L[j].2.2.2.2.length ≤ 1048576 := Nat.le_trans (wp_len (said L[j])) hwj
  have hLl : L.length ≤ 1048576 := by have := wt_len (L.map said); rw [List.length_map] at this; omega
  generalize hLj : L[j] = r at *
  obtain ⟨ln, nm, pa, pc, ps⟩ := r
  dsimp only at c1 c2 c3 hpr hml
  obtain ⟨W1, hW1⟩ : ∃ W1, W.alloc (.cells #[.int .i64 ln, .string (S nm), .slice pa ps.length pc] 33) = W1 := ⟨_, rfl⟩
  have b01 : Below W.heap.size W W1 := by rw [← hW1]; exact (Below.refl _ _).alloc (Nat.le_refl _) _
  have s1 : W1.heap.size = W.heap.size + 1 := by rw [← hW1]; simp
  have hx1 : W1.heap[W.heap.size]? = some (.cells #[.int .i64 ln, .string (S nm), .slice pa ps.length pc] 33 (0, 0)) := by rw [← hW1]; exact heap_alloc_new _ _
  obtain ⟨v1, w1, e1, o1, g1, b1⟩ := append_gen KDp W1 W1.heap.size (.slice none 0 0) [] ps pa ps.length pc (GOwn.nil _ _ _ _ _) (hpr.below pV_len b01) rfl (Nat.le_refl _) (by simp; omega)
  rw [List.nil_append] at o1
  have hx2 : w1.heap[W.heap.size]? = some (.cells #[.int .i64 ln, .string (S nm), .slice pa ps.length pc] 33 (0, 0)) := by rw [b1.block _ (by omega)]; exact hx1
  have ba : Below W1.heap.size w1 (w1.alloc (.cells #[.string (S sprB), .string (S nm)] 37)) := (Below.refl _ _).alloc b1.size _
  have o1a : GOwn 37 2 pV (w1.alloc (.cells #[.string (S sprB), .string (S nm)] 37)) W1.heap.size v1 ps := o1.below ((Below.refl _ _).alloc (Nat.le_refl _) _)
  obtain ⟨v2, w2, e2, o2, g2', b2⟩ := append_gen KDp (w1.alloc (.cells #[.string (S sprB), .string (S nm)] 37)) W1.heap.size v1 ps [(sprB, nm)] (some ⟨w1.heap.size, 0, none⟩) 1 1 o1a (GRow.one pV w1 37 (sprB, nm)) rfl (by have := b1.size; simp; omega) (by simp; omega)
  obtain ⟨g2, cap2, hv2, hc2, hm2, hg2, hgs2⟩ : ∃ g cap, v2 = .slice (some ⟨g, 0, none⟩) (ps.length + 1) cap ∧ ps.length + 1 ≤ cap ∧ cap ≤ maxLen ∧ W1.heap.size ≤ g ∧ g < w2.heap.size := by
    rcases owns_form o2 with ⟨_, h0⟩ | ⟨g, cap, e, h1, h2, h3, h4⟩
    · simp at h0
    · exact ⟨g, cap, by rw [e]; simp, by simpa using h1, h2, h3, h4⟩
  subst hv2
  have b12 : Below W1.heap.size W1 w2 := b1.trans (ba.trans b2)
  have b02 : Below W.heap.size W w2 := b01.trans (b12.mono (by omega))
  have hx3 : w2.heap[W.heap.size]? = some (.cells #[.int .i64 ln, .string (S nm), .slice pa ps.length pc] 33 (0, 0)) := by rw [b12.block _ (by omega)]; exact hx1
  obtain ⟨W3, hW3⟩ : ∃ W3, w2.setCell ⟨W.heap.size, 2, none⟩ (.slice (some ⟨g2, 0, none⟩) ps.length cap2) = W3 := ⟨_, rfl⟩
  have hx4 : W3.heap[W.heap.size]? = some (.cells #[.int .i64 ln, .string (S nm), .slice (some ⟨g2, 0, none⟩) ps.length cap2] 33 (0, 0)) := by rw [← hW3]; exact Go.heap_setCell_same _ _ _ _ _ _ hx3
  have hk3 : ∀ k, k ≠ W.heap.size → W3.heap[k]? = w2.heap[k]? := fun k hk => by rw [← hW3]; exact Below.heap_setCell _ _ _ _ hk
  have s3 : W3.heap.size = w2.heap.size := by rw [← hW3, World.size_setCell]
  have b03 : Below W.heap.size W W3 := by rw [← hW3]; exact b02.setCell (p := ⟨W.heap.size, 2, none⟩) (Nat.le_refl _) _
  have hO3 : GOwn 33 3 rV W3 w.heap.size (.slice oa on oc) Os := i1.below b03
  have hws : w.heap.size ≤ W.heap.size := i5.size
  have hO3a : GOwn 33 3 rV (W3.alloc (.cells #[.int .i64 ln, .string (S nm), .slice (some ⟨g2, 0, none⟩) ps.length cap2] 33)) w.heap.size (.slice oa on oc) Os := hO3.below ((Below.refl _ _).alloc (Nat.le_refl _) _)
  obtain ⟨v3, w3, e3, o3, g3, b3⟩ := append_gen KDr (W3.alloc (.cells #[.int .i64 ln, .string (S nm), .slice (some ⟨g2, 0, none⟩) ps.length cap2] 33)) w.heap.size (.slice oa on oc) Os [((ln, nm, some ⟨g2, 0, none⟩, cap2, ps) : RX)] (some ⟨W3.heap.size, 0, none⟩) 1 1 hO3a (GRow.one rV W3 33 (ln, nm, some ⟨g2, 0, none⟩, cap2, ps)) rfl (by have := b03.size; simp; omega) (by simp; omega)
  obtain ⟨a3, c3', hv3, _, _, _⟩ := o3.row rV_len
  subst hv3
  have ba3 : Below W3.heap.size W3 (W3.alloc (.cells #[.int .i64 ln, .string (S nm), .slice (some ⟨g2, 0, none⟩) ps.length cap2] 33)) := (Below.refl _ _).alloc (Nat.le_refl _) _
  refine ⟨W1, v1, w1, g2, cap2, w2, W3, a3, _, c3', w3, Os ++ [(ln, nm, some ⟨g2, 0, none⟩, cap2, ps)], hW1, ⟨?_, ?_⟩, e1, ?_, e2, ?_, fun X => halfP (some ⟨g2, 0, none⟩) (ps.length + 1) cap2 ps.length _ rfl (by omega) X, ⟨?_, ?_⟩, hW3, ⟨?_, ?_, ?_⟩, e3, by simp [q1], o3, by simp; omega, ?_, fun x hx => ?_, ?_⟩
  · rw [cell_of_row _ _ _ _ _ _ hx1]; rfl
  · rw [cell_of_row _ _ _ _ _ _ hx1]; rfl
  · rw [cell_of_row _ _ _ _ _ _ hx2]; rfl
  · rw [b02.cell (World.block_lt_of_cell? W _ c3)]; exact c3
  · rw [cell_of_row _ _ _ _ _ _ hx3]; rfl
  · exact Go.frozen_of_row _ _ _ _ _ hx3
  · rw [cell_of_row _ _ _ _ _ _ hx4]; rfl
  · rw [cell_of_row _ _ _ _ _ _ hx4]; rfl
  · rw [cell_of_row _ _ _ _ _ _ hx4]; rfl
  · intro i hi hi'
    by_cases e : i < Os.length
    · rw [List.getElem_append_left e]
      exact i3 i e hi'
    · have e2 : i = j := by simp at hi; omega
      subst e2
      rw [List.getElem_append_right (by omega)]
      have e3 : i - Os.length = 0 := by omega
      simp only [e3, List.getElem_cons_zero, hLj]
      exact ⟨by trivial, by trivial⟩
  · rcases List.mem_append.1 hx with hx | hx
    · exact (((i4 x hx).below b03).below ba3).grown hO3a g3
    · rw [List.mem_singleton] at hx
      subst hx
      have p2 : PO w.heap.size (ln, nm, some ⟨g2, 0, none⟩, cap2, ps) w2 := ⟨g2, rfl, owns_base o2 (by omega)⟩
      have p3 : PO w.heap.size (ln, nm, some ⟨g2, 0, none⟩, cap2, ps) W3 := by rw [← hW3]; exact p2.set _ _ _ (Or.inr (fun g e => by injection e with e; injection e with e; omega))
      exact (p3.below ba3).grown hO3a g3
  · exact ((i5.trans (b03.mono hws)).trans (ba3.mono (by have := b03.size; omega))).trans b3

/-- What copied answers. -/
def CpQ (w : World) (L : List RX) (n : Nat) (a : Option Addr) (c : Nat) (Os : List RX) (w' : World) : Prop := Os.length = n ∧ n + 1 ≤ c ∧ c ≤ maxLen ∧ GRow 3 rV w' a (Os ++ [zR]) ∧ (∀ i (h : i < Os.length) (h' : i < L.length), Os[i].1 = L[i].1 ∧ said Os[i] = said L[i]) ∧ (∀ r ∈ Os, PO w.heap.size r w') ∧ Below w.heap.size w w'
set_option maxHeartbeats 2000000 in
theorem copied_any (sa : Option Addr) (sc : Nat) (L : List RX) (n : Nat) (w : World) (hn : L.length = n) (hr : RRow w sa L) (hz : wt (L.map said) ≤ 1048576) :
    Calls Tryd.prog 5 #[.slice sa n sc] w fun e w' => ∃ a c Os, e = .returned (.slice a n c) ∧ CpQ w L n a c Os w' := by
  have hlen := wt_len (L.map said)
  rw [List.length_map] at hlen
  have nb : (n : Int) ≤ 1048576 := by omega
  have hH : Hid (RRow w sa L ∧ wt (L.map said) ≤ 1048576) := ⟨hr, hz⟩
  have hn' : Hid (L.length = n) := hn
  clear hr hz hlen hn
  go_enter Tryd.func5, Tryd.ntmps5
  go_wp2_with fail
  go_loopw [3, 4] (fun v iv wr => ∃ (j : Nat) (Os : List RX) (oa : Option Addr) (on oc : Nat), iv = .int .i64 (j : Int) ∧ v = .slice oa on oc ∧ j ≤ n ∧ Hid (Os.length = j ∧ CpI w L (.slice oa on oc) Os wr)) (fun _ iv _ => n - (intOf iv).toNat)
  case atStart => exact ⟨0, [], none, 0, 0, rfl, rfl, Nat.zero_le _, rfl, GOwn.nil _ _ _ _ _, Nat.zero_le _, fun i h => by simp at h, fun r hr => by simp at hr, Below.refl _ _⟩
  case round =>
    obtain ⟨j, Os, oa, on, oc, rfl, rfl, hj, hQ⟩ := hrel
    have j0 : (0 : Int) ≤ (j : Int) := Int.natCast_nonneg _
    by_cases hlt : j < n
    · have j1 : (j : Int) < (n : Int) := Int.ofNat_lt.2 hlt
      have hjL : j < L.length := by rw [hn'.out]; exact hlt
      obtain ⟨b, off, rfl, ⟨c1, c2, c3⟩, W1, v1, w1, g2, cap2, w2, W3, a3, n3, c3', w3, Os', hW1, ⟨d1, d2⟩, e1, d3, e2, d4, hsl, ⟨d5, d6⟩, hW3, ⟨d7, d8, d9⟩, e3, l3, s3⟩ := cp_round hH.out.1 hH.out.2 hQ.out hjL
      have hfin : Hid (Os'.length = j + 1 ∧ CpI w L (.slice a3 n3 c3') Os' w3) := ⟨l3, s3⟩
      have hlt' : Hid (j < n) := hlt
      have hsp : S sprB = { data := #[115, 112, 97, 114, 101] } := rfl
      rw [hsp] at e2
      generalize hxx : L[j] = r at *
      obtain ⟨ln, nm, pa, pc, ps⟩ := r
      dsimp only at c1 c2 c3 hW1 d1 d2 e1 d3 e2 d4 hsl d5 hW3 d7 d8 d9 e3
      generalize S nm = N at *
      generalize ps.length = m at *
      clear l3 s3 hxx hjL hlt hj hQ hsp
      go_wp2_with (first
        | (at_builtin; refine Lib.wpList_append_run _ rfl _ _ _ _ rfl _ _ rfl rfl _ _ e1 ?_; clear e1)
        | (at_builtin; refine Lib.wpList_append_run _ rfl _ _ _ _ rfl _ _ rfl rfl _ _ e2 ?_; clear e2)
        | (at_builtin; refine Lib.wpList_append_run _ rfl _ _ _ _ rfl _ _ rfl rfl _ _ e3 ?_; clear e3))
      go_roundw
      case rel => exact ⟨j + 1, Os', _, _, _, by simp, rfl, hlt'.out, hfin⟩
      case measure => have := hlt'.out; simp [intOf]; omega
    · have e : n = j := by omega
      subst e
      have j1 : ¬ (n : Int) < (n : Int) := by omega
      obtain ⟨q1, i1, i2, i3, i4, i5⟩ := hQ.out
      have i1a : GOwn 33 3 rV (wr.alloc (.cells #[.int .i64 (-77), .string ⟨#[]⟩, .slice none 0 0] 33)) w.heap.size (.slice oa on oc) Os := i1.below ((Below.refl _ _).alloc (Nat.le_refl _) _)
      have ba : Below wr.heap.size wr (wr.alloc (.cells #[.int .i64 (-77), .string ⟨#[]⟩, .slice none 0 0] 33)) := (Below.refl _ _).alloc (Nat.le_refl _) _
      obtain ⟨v4, w4, e4, o4, g4, b4⟩ := append_gen KDr (wr.alloc (.cells #[.int .i64 (-77), .string ⟨#[]⟩, .slice none 0 0] 33)) w.heap.size (.slice oa on oc) Os [zR] (some ⟨wr.heap.size, 0, none⟩) 1 1 i1a (GRow.one rV wr 33 zR) rfl (by have := i5.size; simp; omega) (by simp; omega)
      obtain ⟨a4, c4, rfl, hc4, hm4, r4⟩ := o4.row rV_len
      have hl4 : (Os ++ [zR]).length = n + 1 := by simp [q1]
      rw [hl4] at e4 hc4
      have hsl : ∀ X, (Instr.sliceAt 22 (.slice a4 (n + 1) c4) none (some (.int .i64 (n : Int))) none).run Tryd.prog X = .ok (.slice a4 n c4) X := fun X => halfR a4 (n + 1) c4 n _ rfl (by omega) X
      have hfin : Hid (CpQ w L n a4 c4 Os w4) :=
        ⟨q1, hc4, hm4, r4, i3, fun r hr => ((i4 r hr).below ba).grown i1a g4, (i5.trans (ba.mono i5.size)).trans b4⟩
      clear q1 i1 i2 i3 i4 i5 i1a ba o4 g4 b4 hc4 hm4 r4 hl4 hQ hlt hj
      go_wp2_with (at_builtin; refine Lib.wpList_append_run _ rfl _ _ _ _ rfl _ _ rfl rfl _ _ e4 ?_; clear e4)
      go_ret
      exact ⟨a4, c4, rfl, Os, hfin.out⟩
end Lr
end Go.Proofs.YtkcncepfncdbhaaDoor

namespace Go.Proofs.YtkcncepfncdbhaaDoor
namespace Lr
open Go.RowKit
set_option linter.unusedVariables false
set_option maxRecDepth 100000

theorem ne_pair (c s : ByteArray) (W : World) :
    (binOp .neq 37 (.agg #[.string c, .string s]) (.agg #[.string c, .string s])).run Tryd.prog W = .ok (.bool false) W := by
  have hS : Tryd.prog.underlying 37 = some (.struct (Tryd.prog.fieldsOf 37)) := by kernel_rfl
  have hp : Tryd.prog.stoodInHeld 37 = false := by kernel_rfl
  rw [run_neq_struct, run_equalIn_struct _ _ _ _ _ hS hp]
  simp only [Program.fieldsOf, Tryd.underlying37]
  simp [Op.eqFields, go_sem]

set_option maxHeartbeats 1000000 in
theorem sameRecord_any (la lb : Int) (nm : ByteArray) (l : List PR) (n : Nat) (hn : l.length = n) (a b : Option Addr) (c d : Nat) (w : World) (hl : n ≤ 1048576) (h1 : PRow w a l) (h2 : PRow w b l) :
    Calls Tryd.prog 25 #[.agg #[.int .i64 la, .string nm, .slice a n c], .agg #[.int .i64 lb, .string nm, .slice b n d]] w fun e w' => e = .returned (.bool true) ∧ Below w.heap.size w w' := by
  obtain ⟨Wa, hWa⟩ : ∃ W, w.alloc (.cells #[.int .i64 la, .string nm, .slice a n c] 33) = W := ⟨_, rfl⟩
  obtain ⟨Wb, hWb⟩ : ∃ W, Wa.alloc (.cells #[.int .i64 lb, .string nm, .slice b n d] 33) = W := ⟨_, rfl⟩
  have na : Wa.heap.size = w.heap.size + 1 := by rw [← hWa]; simp
  have xa0 : Wa.heap[w.heap.size]? = some (.cells #[.int .i64 la, .string nm, .slice a n c] 33 (0, 0)) := by rw [← hWa]; exact heap_alloc_new _ _
  have bab : Below Wa.heap.size Wa Wb := by rw [← hWb]; exact (Below.refl _ _).alloc (Nat.le_refl _) _
  have xa : Wb.heap[w.heap.size]? = some (.cells #[.int .i64 la, .string nm, .slice a n c] 33 (0, 0)) := by rw [bab.block _ (by omega)]; exact xa0
  have xb : Wb.heap[w.heap.size + 1]? = some (.cells #[.int .i64 lb, .string nm, .slice b n d] 33 (0, 0)) := by rw [← na, ← hWb]; exact heap_alloc_new _ _
  have hB : Below w.heap.size w Wb := by
    rw [← hWb, ← hWa]
    exact ((Below.refl _ _).alloc (Nat.le_refl _) _).alloc (by simp) _
  have c1 : Wb.cell? ⟨w.heap.size, 1, none⟩ = some (.string nm) := by rw [cell_of_row _ _ _ _ _ _ xa]; rfl
  have c2 : Wb.cell? ⟨w.heap.size, 2, none⟩ = some (.slice a n c) := by rw [cell_of_row _ _ _ _ _ _ xa]; rfl
  have d1 : Wb.cell? ⟨w.heap.size + 1, 1, none⟩ = some (.string nm) := by rw [cell_of_row _ _ _ _ _ _ xb]; rfl
  have d2 : Wb.cell? ⟨w.heap.size + 1, 2, none⟩ = some (.slice b n d) := by rw [cell_of_row _ _ _ _ _ _ xb]; rfl
  have hB' : Hid (Below w.heap.size w Wb) := hB
  have h1' : Hid (PRow Wb a l) := h1.below pV_len hB
  have h2' : Hid (PRow Wb b l) := h2.below pV_len hB
  have hc2 : Hid (∀ q, (Wb.drewN q).cell? ⟨w.heap.size, 2, none⟩ = some (.slice a n c) ∧ (Wb.drewN q).cell? ⟨w.heap.size + 1, 2, none⟩ = some (.slice b n d)) := fun q => ⟨c2, d2⟩
  have hn' : Hid (l.length = n) := hn
  have nb : (n : Int) ≤ 1048576 := by omega
  clear xa0 xa xb bab hB h1 h2 hn hl
  go_enter Tryd.func25, Tryd.ntmps25
  go_wp2_with fail
  clear c1 c2 d1 d2
  go_loopw [5] (fun iv wr => ∃ i q : Nat, i ≤ n ∧ iv = .int .i64 (i : Int) ∧ Hid (wr = Wb.drewN q)) (fun iv _ => n - (intOf iv).toNat)
  case atStart => exact ⟨0, 0, Nat.zero_le _, rfl, rfl⟩
  case round =>
    obtain ⟨i, q, hi, rfl, hw⟩ := hrel
    have i0 : (0 : Int) ≤ (i : Int) := Int.natCast_nonneg _
    have hcc := hc2.out q
    rw [← hw.out] at hcc
    obtain ⟨f1, f2⟩ := hcc
    by_cases hlt : i < n
    · have hil : i < l.length := by rw [hn'.out]; exact hlt
      obtain ⟨b1, o1, rfl, p1, p2⟩ := prow_at h1'.out i hil
      obtain ⟨b2, o2, rfl, q1, q2⟩ := prow_at h2'.out i hil
      have hE : ∀ a, wr.cell? a = Wb.cell? a := fun a => by rw [hw.out]; rfl
      rw [← hE] at p1 p2 q1 q2
      have i1 : (i : Int) < (n : Int) := Int.ofNat_lt.2 hlt
      generalize S l[i].1 = X at *
      generalize S l[i].2 = Y at *
      have hne := ne_pair X Y
      have hlt' : Hid (i < n) := hlt
      clear hE hil hlt hi
      go_wp2_with fail
      go_quiet (fail)
      go_wp2_with fail
      go_roundw
      case rel => exact ⟨i + 1, _, hlt'.out, by simp, by unfold Hid; rw [hw.out, World.drewN_drewN]⟩
      case measure => have := hlt'.out; simp [intOf]; omega
    · have e : n = i := by omega
      subst e
      have k1 : ¬ (n : Int) < (n : Int) := by omega
      have hfin : Hid (Below w.heap.size w wr) := by unfold Hid; rw [hw.out]; exact hB'.out.trans (drewN_below _ _ _)
      clear hlt hi
      go_wp2_with fail
      go_ret
      exact ⟨rfl, hfin.out⟩

set_option maxHeartbeats 2000000 in
theorem sameRecords_any (a b : Option Addr) (c d : Nat) (L M : List RX) (n : Nat) (w : World) (hL : L.length = n) (hM : M.length = n) (hl : n ≤ 1048576) (h1 : RRow w a L) (h2 : RRow w b M) (hs : ∀ i (h : i < L.length) (h' : i < M.length), L[i].1 = M[i].1 ∧ said L[i] = said M[i]) (hz : ∀ r ∈ L, r.2.2.2.2.length ≤ 1048576) :
    Calls Tryd.prog 17 #[.slice a n c, .slice b n d, .bool true] w fun e w' => e = .returned (.bool true) ∧ Below w.heap.size w w' := by
  have h1' : Hid (RRow w a L) := h1
  have h2' : Hid (RRow w b M) := h2
  have hs' : Hid (∀ i (h : i < L.length) (h' : i < M.length), L[i].1 = M[i].1 ∧ said L[i] = said M[i]) := hs
  have hz' : Hid (∀ r ∈ L, r.2.2.2.2.length ≤ 1048576) := hz
  have hLM : Hid (L.length = n ∧ M.length = n) := ⟨hL, hM⟩
  have nb : (n : Int) ≤ 1048576 := by omega
  clear h1 h2 hs hz hL hM hl
  go_enter Tryd.func17, Tryd.ntmps17
  go_wp2_with fail
  go_loopw [7] (fun iv wr => ∃ i : Nat, i ≤ n ∧ iv = .int .i64 (i : Int) ∧ Hid (Below w.heap.size w wr)) (fun iv _ => n - (intOf iv).toNat)
  case atStart => exact ⟨0, Nat.zero_le _, rfl, Below.refl _ _⟩
  case round =>
    obtain ⟨i, hi, rfl, hB⟩ := hrel
    have i0 : (0 : Int) ≤ (i : Int) := Int.natCast_nonneg _
    by_cases hlt : i < n
    · have i1 : (i : Int) < (n : Int) := Int.ofNat_lt.2 hlt
      have hiL : i < L.length := by rw [hLM.out.1]; exact hlt
      have hiM : i < M.length := by rw [hLM.out.2]; exact hlt
      obtain ⟨b1, o1, rfl, c0, c1, c2⟩ := rrow_at h1'.out i hiL
      obtain ⟨b2, o2, rfl, d0, d1, d2⟩ := rrow_at h2'.out i hiM
      have r1 := (h1'.out.2 _ (List.getElem_mem hiL)).1
      have r2 := (h2'.out.2 _ (List.getElem_mem hiM)).1
      have hsi := hs'.out i hiL hiM
      have hzi := hz'.out _ (List.getElem_mem hiL)
      obtain ⟨⟨ln, nm, pa, pc, ps⟩, hx⟩ : ∃ x, L[i] = x := ⟨_, rfl⟩
      obtain ⟨⟨ln', nm', pa', pc', ps'⟩, hy⟩ : ∃ y, M[i] = y := ⟨_, rfl⟩
      rw [hx] at c0 c1 c2 r1 hsi hzi
      rw [hy] at d0 d1 d2 r2 hsi
      dsimp only [said] at c0 c1 c2 r1 d0 d1 d2 r2 hsi hzi
      obtain ⟨rfl, hsi⟩ := hsi
      injection hsi with e1 e2
      subst e1 e2
      have hcl : Hid (∀ W, Below w.heap.size w W → (W.cell? ⟨b1, o1 + i * 3, none⟩ = some (.int .i64 ln) ∧ W.cell? ⟨b1, o1 + i * 3 + 1, none⟩ = some (.string (S nm)) ∧ W.cell? ⟨b1, o1 + i * 3 + 2, none⟩ = some (.slice pa ps.length pc)) ∧ W.cell? ⟨b2, o2 + i * 3, none⟩ = some (.int .i64 ln) ∧ W.cell? ⟨b2, o2 + i * 3 + 1, none⟩ = some (.string (S nm)) ∧ W.cell? ⟨b2, o2 + i * 3 + 2, none⟩ = some (.slice pa' ps.length pc')) := fun W hW => by
        refine ⟨⟨?_, ?_, ?_⟩, ?_, ?_, ?_⟩
        · rw [hW.cell (World.block_lt_of_cell? w _ c0)]; exact c0
        · rw [hW.cell (World.block_lt_of_cell? w _ c1)]; exact c1
        · rw [hW.cell (World.block_lt_of_cell? w _ c2)]; exact c2
        · rw [hW.cell (World.block_lt_of_cell? w _ d0)]; exact d0
        · rw [hW.cell (World.block_lt_of_cell? w _ d1)]; exact d1
        · rw [hW.cell (World.block_lt_of_cell? w _ d2)]; exact d2
      obtain ⟨N, hN⟩ : ∃ N, S nm = N := ⟨_, rfl⟩
      obtain ⟨m, hm⟩ : ∃ m, ps.length = m := ⟨_, rfl⟩
      have hS : Hid (∀ W, Below w.heap.size w W → Calls Tryd.prog 25 #[.agg #[.int .i64 ln, .string N, .slice pa m pc], .agg #[.int .i64 ln, .string N, .slice pa' m pc']] W fun e w' => e = .returned (.bool true) ∧ Below W.heap.size W w') := fun W hW => by
        exact sameRecord_any ln ln N ps m hm pa pa' pc pc' W (by omega) (r1.below pV_len hW) (r2.below pV_len hW)
      rw [hN, hm] at hcl
      have hlt' : Hid (i < n) := hlt
      clear hx hy hN hm c0 c1 c2 d0 d1 d2 r1 r2 hzi hiL hiM hlt hi
      go_upto_region 6 with fail
      have HD : Hid (Below w.heap.size w wr.drew) := hB.out.trans ((drewN_below wr wr.heap.size 1).mono hB.out.size)
      have cd := hcl.out wr.drew HD.out
      go_region_held3 (fun w' => (w'.cell? ⟨b1, o1 + i * 3, none⟩ = some (.int .i64 ln) ∧ w'.cell? ⟨b1, o1 + i * 3 + 1, none⟩ = some (.string N) ∧ w'.cell? ⟨b1, o1 + i * 3 + 2, none⟩ = some (.slice pa m pc)) ∧ w'.cell? ⟨b2, o2 + i * 3, none⟩ = some (.int .i64 ln) ∧ w'.cell? ⟨b2, o2 + i * 3 + 1, none⟩ = some (.string N) ∧ w'.cell? ⟨b2, o2 + i * 3 + 2, none⟩ = some (.slice pa' m pc'))
        (first | exact cc8 | exact cd)
        (first | (go_at_call 25; refine (hS.out wr.drew HD.out).mono ?_; rintro e w8 ⟨rfl, hb8⟩; have H8 : Hid (Below w.heap.size w w8) := HD.out.trans (hb8.mono HD.out.size); have cc8 := hcl.out w8 H8.out; clear hb8))
      clear cd
      obtain ⟨⟨f1, f2, f3⟩, g1, g2, g3⟩ := cc8
      go_upto_region 7 with fail
      go_quiet (fail)
      go_wp2_with fail
      go_roundw
      case rel => exact ⟨i + 1, hlt'.out, by simp, H8.out.trans (drewN_below _ _ _)⟩
      case measure => have := hlt'.out; simp [intOf]; omega
    · have e : n = i := by omega
      subst e
      have i1 : ¬ (n : Int) < (n : Int) := by omega
      clear hi hlt
      go_wp2_with fail
      go_ret
      exact ⟨rfl, hB.out⟩
end Lr
end Go.Proofs.YtkcncepfncdbhaaDoor

namespace Go.Proofs.YtkcncepfncdbhaaDoor
namespace Lr
open Go.RowKit
set_option linter.unusedVariables false
set_option maxRecDepth 100000

theorem num_any (x : Int) (w : World) : Calls Tryd.prog 7 #[.int .i64 x] w fun e w' => e = .returned (.int .i64 x) ∧ w' = w := by
  go_enter Tryd.func7, Tryd.ntmps7
  go_wp2_with fail
  go_ret
  exact ⟨rfl, rfl⟩

theorem PO.row {B : Nat} {r : RX} {W : World} (h : PO B r W) : PRow W r.2.2.1 r.2.2.2.2 ∧ r.2.2.2.2.length + 1 ≤ r.2.2.2.1 ∧ r.2.2.2.1 ≤ maxLen := by
  obtain ⟨g, e, h1⟩ := h
  obtain ⟨a, c, h2, h3, h4, h5⟩ := h1.row pV_len
  injection h2 with e1 _ e2
  subst e1 e2
  rw [List.length_append] at h3
  rw [e]
  exact ⟨h5.front, h3, h4⟩
theorem PO.spare {B : Nat} {r : RX} {W : World} (h : PO B r W) : ∃ g, r.2.2.1 = some ⟨g, 0, none⟩ ∧ W.cell? ⟨g, r.2.2.2.2.length * 2, none⟩ = some (.string (S sprB)) ∧ W.cell? ⟨g, r.2.2.2.2.length * 2 + 1, none⟩ = some (.string (S r.2.1)) := by
  obtain ⟨g, e, h1⟩ := h
  obtain ⟨a, c, h2, h3, h4, h5⟩ := h1.row pV_len
  injection h2 with e1 _ e2
  subst e1 e2
  obtain ⟨b, off, ea, p1, p2⟩ := prow_at h5 r.2.2.2.2.length (by simp)
  injection ea with ea
  injection ea with ea eb
  subst ea eb
  rw [List.getElem_append_right (by omega)] at p1 p2
  simp only [Nat.sub_self, List.getElem_cons_zero, Nat.zero_add] at p1 p2
  exact ⟨g, e, p1, p2⟩
theorem CpQ.rrow {w : World} {L : List RX} {n : Nat} {a : Option Addr} {c : Nat} {Os : List RX} {w' : World} (h : CpQ w L n a c Os w') : RRow w' a Os :=
  ⟨h.2.2.2.1.front, fun r hr => ⟨(h.2.2.2.2.2.1 r hr).row.1, by have := (h.2.2.2.2.2.1 r hr).row.2.1; omega, (h.2.2.2.2.2.1 r hr).row.2.2⟩⟩
theorem CpQ.below {w : World} {L : List RX} {n : Nat} {a : Option Addr} {c : Nat} {Os : List RX} {w' W : World} (h : CpQ w L n a c Os w') (hb : Below w'.heap.size w' W) : CpQ w L n a c Os W := by
  obtain ⟨h1, h2, h3, h4, h5, h6, h7⟩ := h
  exact ⟨h1, h2, h3, h4.below rV_len hb, h5, fun r hr => (h6 r hr).below hb, h7.trans (hb.mono h7.size)⟩
theorem CpQ.said {w : World} {L : List RX} {n : Nat} {a : Option Addr} {c : Nat} {Os : List RX} {w' : World} (h : CpQ w L n a c Os w') (hn : L.length = n) : Os.map said = L.map said := by
  refine List.ext_getElem (by rw [List.length_map, List.length_map, h.1, hn]) (fun i h1 h2 => ?_)
  rw [List.getElem_map, List.getElem_map]
  exact (h.2.2.2.2.1 i (by simpa using h1) (by simpa using h2)).2

set_option maxHeartbeats 2000000 in
theorem untouched_any (w0 : World) (a b : Option Addr) (c d : Nat) (Os L : List RX) (n : Nat) (w : World) (hn : L.length = n) (hz : wt (L.map said) ≤ 1048576) (hr : RRow w b L) (hQ : CpQ w0 L n a c Os w) :
    Calls Tryd.prog 8 #[.slice a n c, .slice b n d] w fun e w' => e = .returned (.bool true) ∧ Below w.heap.size w w' := by
  have hlen := wt_len (L.map said)
  rw [List.length_map] at hlen
  have nb : (n : Int) ≤ 1048576 := by omega
  have hzi : ∀ r ∈ L, r.2.2.2.2.length ≤ 1048576 := fun r hr => Nat.le_trans (wp_len (said r)) (Nat.le_trans (wr_le _ _ (List.mem_map_of_mem hr)) hz)
  have hOL : ∀ r ∈ Os, r.2.2.2.2.length ≤ 1048576 := fun r hr => by
    have hm : said r ∈ L.map said := by rw [← hQ.said hn]; exact List.mem_map_of_mem hr
    exact Nat.le_trans (wp_len (said r)) (Nat.le_trans (wr_le _ _ hm) hz)
  have hS : Hid (Calls Tryd.prog 17 #[.slice a n c, .slice b n d, .bool true] w fun e w' => e = .returned (.bool true) ∧ Below w.heap.size w w') :=
    sameRecords_any a b c d Os L n w hQ.1 hn (by omega) hQ.rrow hr (fun i h h' => hQ.2.2.2.2.1 i h h') hOL
  have hQ' : Hid (CpQ w0 L n a c Os w) := hQ
  have hr' : Hid (RRow w b L) := hr
  have hz' : Hid (∀ r ∈ L, r.2.2.2.2.length ≤ 1048576) := hzi
  have hn' : Hid (L.length = n) := hn
  obtain ⟨ba, oa, ha, z1, _, _⟩ : ∃ ba oa, a = some ⟨ba, oa, none⟩ ∧ w.cell? ⟨ba, oa + n * 3, none⟩ = some (.int .i64 (-77)) ∧ True ∧ True := by
    obtain ⟨b', o', e, h1⟩ := hQ.2.2.2.1 n (by rw [List.length_append, hQ.1]; simp)
    have h2 := h1 0 (by omega)
    have e0 : (Os ++ [zR])[n]'(by rw [List.length_append, hQ.1]; simp) = zR := by rw [List.getElem_append_right (by rw [hQ.1]; exact Nat.le_refl _)]; simp
    rw [e0] at h2
    exact ⟨b', o', e, h2, trivial, trivial⟩
  subst ha
  have hsl : ∀ X, (Instr.sliceAt 22 (.slice (some ⟨ba, oa, none⟩) n c) none (some (.int .i64 ((n : Int) + 1))) none).run Tryd.prog X = .ok (.slice (some ⟨ba, oa, none⟩) (n + 1) c) X := fun X => halfR (some ⟨ba, oa, none⟩) n c (n + 1) _ (by simp) hQ.2.1 X
  have n0 : (0 : Int) ≤ (n : Int) := Int.natCast_nonneg _
  have n1 : (n : Int) < ((n + 1 : Nat) : Int) := by omega
  have hz1 : Hid (w.cell? ⟨ba, oa + n * 3, none⟩ = some (.int .i64 (-77))) := z1
  clear hlen hzi hOL hz hQ hr hn z1
  go_enter Tryd.func8, Tryd.ntmps8
  go_wp2_with (go_at_call 17; refine hS.out.mono ?_; rintro e w1 ⟨rfl, hb1⟩; have H1 : Hid (Below w.heap.size w w1) := hb1; have z2 : w1.cell? ⟨ba, oa + n * 3, none⟩ = some (.int .i64 (-77)) := (by rw [hb1.cell (World.block_lt_of_cell? w _ hz1.out)]; exact hz1.out); clear hb1)
  go_loopw [7] (fun iv wr => ∃ i q : Nat, i ≤ n ∧ iv = .int .i64 (i : Int) ∧ Hid (wr = w1.drewN q)) (fun iv _ => n - (intOf iv).toNat)
  case atStart => exact ⟨0, 0, Nat.zero_le _, rfl, rfl⟩
  case round =>
    obtain ⟨i, q, hi, rfl, hw⟩ := hrel
    clear z2
    have i0 : (0 : Int) ≤ (i : Int) := Int.natCast_nonneg _
    have hB : Hid (Below w.heap.size w wr) := by unfold Hid; rw [hw.out]; exact H1.out.trans ((drewN_below w1 w1.heap.size q).mono H1.out.size)
    by_cases hlt : i < n
    · have i1 : (i : Int) < (n : Int) := Int.ofNat_lt.2 hlt
      have hiL : i < L.length := by rw [hn'.out]; exact hlt
      have hiO : i < Os.length := by rw [hQ'.out.1]; exact hlt
      obtain ⟨b1, o1, e1, c0, c1, c2⟩ := rrow_at (hQ'.out.rrow.below hB.out) i hiO
      injection e1 with e1
      injection e1 with e1 e2
      subst e1 e2
      obtain ⟨b2, o2, rfl, d0, d1, d2⟩ := rrow_at (hr'.out.below hB.out) i hiL
      have hP := (hQ'.out.2.2.2.2.2.1 _ (List.getElem_mem hiO)).below hB.out
      have hsi := hQ'.out.2.2.2.2.1 i hiO hiL
      have hzj := hz'.out _ (List.getElem_mem hiL)
      obtain ⟨⟨ln, nm, pa, pc, ps⟩, hx⟩ : ∃ x, Os[i] = x := ⟨_, rfl⟩
      obtain ⟨⟨ln', nm', pa', pc', ps'⟩, hy⟩ : ∃ y, L[i] = y := ⟨_, rfl⟩
      rw [hx] at c0 c1 c2 hP hsi
      rw [hy] at d0 d1 d2 hsi hzj
      dsimp only [Lr.said] at c0 c1 c2 d0 d1 d2 hsi hzj
      obtain ⟨rfl, hsi⟩ := hsi
      injection hsi with e1 e2
      subst e1 e2
      obtain ⟨g, hg, s1, s2⟩ := hP.spare
      have hcap := hP.row.2.1
      dsimp only at hg s1 s2 hcap
      subst hg
      obtain ⟨N, hN⟩ : ∃ N, S nm = N := ⟨_, rfl⟩
      obtain ⟨m, hm⟩ : ∃ m, ps.length = m := ⟨_, rfl⟩
      rw [hN] at d1 s2
      rw [hm] at c2 d2 s1 s2 hcap hzj
      have hsp : S sprB = { data := #[115, 112, 97, 114, 101] } := rfl
      rw [hsp] at s1
      have hsl2 : ∀ X, (Instr.sliceAt 31 (.slice (some ⟨g, 0, none⟩) m pc) none (some (.int .i64 ((m : Int) + 1))) none).run Tryd.prog X = .ok (.slice (some ⟨g, 0, none⟩) (m + 1) pc) X := fun X => halfP (some ⟨g, 0, none⟩) m pc (m + 1) _ (by simp) hcap X
      have m0 : (0 : Int) ≤ (m : Int) := Int.natCast_nonneg _
      have m1 : (m : Int) < ((m + 1 : Nat) : Int) := by omega
      have mb : (m : Int) ≤ 1048576 := by omega
      have z0 : 0 + m * 2 = m * 2 := Nat.zero_add _
      have hlt' : Hid (i < n) := hlt
      clear hx hy hN hm c0 c1 hP hiL hiO hlt hi hsp hcap hzj d0
      go_upto_region 12 with fail
      go_quiet (fail)
      go_wp2_with fail
      go_roundw
      case rel => exact ⟨i + 1, _, hlt'.out, by simp, by unfold Hid; rw [hw.out, World.drewN_drewN]⟩
      case measure => have := hlt'.out; simp [intOf]; omega
    · have e : n = i := by omega
      subst e
      have i1 : ¬ (n : Int) < (n : Int) := by omega
      clear hi hlt
      go_wp2_with fail
      go_ret
      exact ⟨rfl, hB.out⟩
end Lr
end Go.Proofs.YtkcncepfncdbhaaDoor

namespace Go.Proofs.YtkcncepfncdbhaaDoor
namespace Lr
open Go.RowKit
set_option linter.unusedVariables false
set_option maxRecDepth 100000

theorem renV_form (D : List RC) : ∃ s x k, renV D = .tuple #[.string s, .int .i64 x, .int .i64 k] := by
  unfold renV
  split
  · exact ⟨_, _, _, rfl⟩
  · split
    · exact ⟨_, _, _, rfl⟩
    · exact ⟨_, _, _, rfl⟩

set_option maxHeartbeats 2000000 in
theorem renders_walk (a : Option Addr) (c : Nat) (L : List RX) (n : Nat) (hn : L.length = n) (w : World) (hr : RRow w a L) (hz : wt (L.map said) ≤ 1048576) (ht : AlTab w) (hT : ChgTab w) :
    Calls Tryd.prog 3 #[.slice a n c] w fun e w' => e = .returned (.bool true) ∧ Below w.heap.size w w' := by
  obtain ⟨s, x, k, hV⟩ := renV_form (L.map said)
  have hR : Hid (Calls Tryd.prog 4 #[.slice a n c] w fun e w' => e = .returned (.tuple #[.string s, .int .i64 x, .int .i64 k]) ∧ Below w.heap.size w w') := by
    have := rRender_any a c L w hr hz
    rw [hV, hn] at this
    exact this
  have hC : Hid (∀ W, Below w.heap.size w W → Calls Tryd.prog 5 #[.slice a n c] W fun e w' => ∃ a2 c2 Os, e = .returned (.slice a2 n c2) ∧ CpQ W L n a2 c2 Os w') := fun W hW => copied_any a c L n W hn (hr.below hW) hz
  have hP : Hid (∀ W0 W a2 c2 Os, Below w.heap.size w W → CpQ W0 L n a2 c2 Os W → Calls Tryd.prog 6 #[.slice a2 n c2] W fun e w' => e = .returned (.tuple #[.string s, .int .i64 x, .int .i64 k]) ∧ Below W.heap.size W w') := fun W0 W a2 c2 Os hW hQ => by
    have h1 := hQ.said hn
    have := render_any a2 c2 Os W hQ.rrow (ht.below hW) (hT.below hW) (by rw [h1]; exact hz)
    rw [h1, hV, hQ.1] at this
    exact this
  have hU : Hid (∀ W0 W a2 c2 Os, Below w.heap.size w W → CpQ W0 L n a2 c2 Os W → Calls Tryd.prog 8 #[.slice a2 n c2, .slice a n c] W fun e w' => e = .returned (.bool true) ∧ Below W.heap.size W w') := fun W0 W a2 c2 Os hW hQ => untouched_any W0 a2 a c2 c Os L n W hn hz (hr.below hW) hQ
  have hnb : Hid (∀ W, Calls Tryd.prog 7 #[.int .i64 x] W fun e w' => e = .returned (.int .i64 x) ∧ w' = W) := fun W => num_any x W
  clear hr hz ht hT hn hV
  go_enter Tryd.func3, Tryd.ntmps3
  go_wp2_with (first
    | (refine (Hid.out H3 |> fun _ => ?_); go_at_call 7; refine (hnb.out _).mono ?_; rintro e w4 ⟨rfl, rfl⟩)
    | (refine (Hid.out H3 |> fun _ => ?_); go_at_call 8; refine (hU.out w1 _ a2 c2 Os H3.out Q3.out).mono ?_; rintro e w5 ⟨rfl, hb5⟩; have H5 : Hid (Below w.heap.size w w5) := H3.out.trans (hb5.mono H3.out.size); clear hb5)
    | (refine (Hid.out H2 |> fun _ => ?_); go_at_call 6; refine (hP.out w1 _ a2 c2 Os H2.out Q2.out).mono ?_; rintro e w3 ⟨rfl, hb3⟩; have H3 : Hid (Below w.heap.size w w3) := H2.out.trans (hb3.mono H2.out.size); have Q3 : Hid (CpQ w1 L n a2 c2 Os w3) := Q2.out.below hb3; clear hb3)
    | (refine (Hid.out H1 |> fun _ => ?_); go_at_call 5; refine (hC.out w1 H1.out).mono ?_; rintro e w2 ⟨a2, c2, Os, rfl, hQ⟩; have Q2 : Hid (CpQ w1 L n a2 c2 Os w2) := hQ; have H2 : Hid (Below w.heap.size w w2) := H1.out.trans (hQ.2.2.2.2.2.2.mono H1.out.size); clear hQ)
    | (go_at_call 4; refine hR.out.mono ?_; rintro e w1 ⟨rfl, hb1⟩; have H1 : Hid (Below w.heap.size w w1) := hb1; clear hb1))
  go_ret
  exact ⟨rfl, H5.out⟩
end Lr
end Go.Proofs.YtkcncepfncdbhaaDoor

namespace Go.Proofs.YtkcncepfncdbhaaDoor
namespace Lr
open Go.RowKit Go.WideShapes
set_option linter.unusedVariables false
set_option linter.unusedSimpArgs false
set_option maxRecDepth 100000

theorem bulk_app {H : Type} (a b : List (DataW H)) : Rows.uptoBulkAll (a ++ b) = Rows.uptoBulkAll a + Rows.uptoBulkAll b := by
  induction a with
  | nil => simp [Rows.uptoBulkAll]
  | cons d a ih => simp only [List.cons_append, Rows.uptoBulkAll, ih]; omega
theorem bulk_sum {H : Type} (D : Nat → DataW H) (f : Nat → Nat) : ∀ l, (∀ i, i < l → f i ≤ Rows.uptoBulk (D i)) → ((List.range l).map f).sum ≤ Rows.uptoBulkAll ((List.range l).map D) := by
  intro l
  induction l with
  | zero => intro _; simp [Rows.uptoBulkAll]
  | succ l ih =>
    intro h
    have h1 := ih (fun i hi => h i (by omega))
    have h2 := h l (by omega)
    rw [List.range_succ, List.map_append, List.map_append, List.map_cons, List.map_nil, List.map_cons, List.map_nil, bulk_app, List.sum_append]
    simp [Rows.uptoBulkAll]
    omega

theorem rows_of {α : Type} (z0 : α) (V : α → List Value) (k : Nat) (P : α → Prop) (Z : α → Nat) {t ts : TypeId} (hund : Tryd.prog.underlying ts = some (.slice t)) (hcl : Tryd.prog.cellsOf t = k) (hk : 0 < k) (h0 : ∀ x, ∃ u, (V x)[0]? = some u)
    {H : Type} {enc : TypeId × Value → H} {w : World} {base : Nat} {spare : Nat → Bool} {held : Bool} {fuel : Nat} {v : Value} {d : DataW H} {p : List MemPlace}
    (elem : ∀ n cs d p, DataW.trod enc Tryd.prog w base spare held n t cs = some (d, p) → ∃ x, cs = V x ∧ P x ∧ Z x ≤ Rows.uptoBulk d)
    (hf : DataW.trod enc Tryd.prog w base spare held fuel ts [v] = some (d, p)) : ∃ a xs cap, v = .slice a xs.length cap ∧ GRow k V w a xs ∧ (∀ x ∈ xs, P x) ∧ (xs.map Z).sum + 1 ≤ Rows.uptoBulk d ∧ xs.length ≤ cap ∧ cap ≤ maxLen := by
  rcases Deep.open_slice hund hf with ⟨hcs, hx⟩ | ⟨x, l, c, m, n, D, Pl, hcs, _, hl, hcm, hm, hxd, hx⟩
  · simp at hcs
    subst hcs
    injection hx with hx _
    subst hx
    exact ⟨none, [], 0, rfl, GRow.nil _ _ _ _, fun x hx => by simp at hx, by simp [Rows.uptoBulk], Nat.le_refl _, by unfold maxLen; omega⟩
  · simp at hcs
    subst hcs
    rw [hcl] at hx
    have key : ∀ i, i < l → ∃ q : α, (∀ j, j < k → w.cell? ((x.add (i * k)).add j) = (V q)[j]?) ∧ P q ∧ Z q ≤ Rows.uptoBulk (D i) := fun i hi => by
      have him : i < m := by rw [hm]; split <;> omega
      obtain ⟨cs', h1, h2⟩ := hx i him
      obtain ⟨q, rfl, hr, hb⟩ := elem _ _ _ _ h2
      obtain ⟨_, _, h3⟩ := World.cells?_some h1
      exact ⟨q, h3, hr, hb⟩
    haveI : Inhabited α := ⟨z0⟩
    obtain ⟨Q, hQ⟩ := Deep.choose_lt key
    injection hxd with hxd _
    have hle : Rows.uptoBulkAll ((List.range l).map D) + 1 ≤ Rows.uptoBulk d := by
      rw [hxd]
      simp only [Rows.uptoBulk]
      omega
    have hs := bulk_sum D (fun i => Z (Q i)) l (fun i hi => (hQ i hi).2.2)
    refine ⟨some x, (List.range l).map Q, c, by simp, fun i hi => ?_, fun z hz => ?_, ?_, by simpa using hl, hcm⟩
    · have hi' : i < l := by simpa using hi
      obtain ⟨h1, _, _⟩ := hQ i hi'
      obtain ⟨b, off, spot⟩ := x
      have hspot : spot = none := by
        have h2 := (hQ 0 (by omega)).1 0 hk
        obtain ⟨u, hu⟩ := h0 (Q 0)
        rw [hu] at h2
        have := World.cell?_spot h2
        simpa [Addr.add] using this
      subst hspot
      have e : ((List.range l).map Q)[i] = Q i := by simp
      rw [e]
      refine ⟨b, off, rfl, fun j hj => ?_⟩
      have := h1 j hj
      rw [add_o, add_o] at this
      exact this
    · obtain ⟨i, hi, rfl⟩ := List.mem_map.1 hz
      have hi' : i < l := by simpa using hi
      exact (hQ i hi').2.1
    · rw [List.map_map]
      have e : (Z ∘ Q) = fun i => Z (Q i) := rfl
      rw [e]
      omega

theorem pair_of {H : Type} {enc : TypeId × Value → H} {w : World} {base : Nat} {spare : Nat → Bool} {held : Bool} {n : Nat} {cs : List Value} {d : DataW H} {p : List MemPlace}
    (h : DataW.trod enc Tryd.prog w base spare held n 37 cs = some (d, p)) : ∃ x : PR, cs = pV x ∧ True ∧ wp x ≤ Rows.uptoBulk d := by
  obtain ⟨xs, n', rfl, hx, hl, hxl, hfi⟩ := DataW.trod_struct Tryd.underlying37 h
  have e2 : Tryd.prog.cellsOf 37 = 2 := by kernel_rfl
  rw [e2] at hl
  match cs, hl with
  | [x0, x1], _ =>
    match xs, hxl with
    | [y0, y1], _ =>
      have g0 := hfi 0 _ rfl
      have g1 := hfi 1 _ rfl
      have z1 : Tryd.prog.cellsOf 9 = 1 := by kernel_rfl
      simp [z1] at g0
      simp [z1] at g1
      obtain ⟨f, hf, hf2, _⟩ := DataW.trod_string Tryd.underlying9 g0
      obtain ⟨s, hs, hs2, _⟩ := DataW.trod_string Tryd.underlying9 g1
      simp at hf hs
      refine ⟨(f.data.toList, s.data.toList), ?_, trivial, ?_⟩
      · rw [hf, hs]
        simp [pV, S_of]
      · injection hx with hx _
        rw [hx, hs2, hf2]
        simp [Rows.uptoBulk, Rows.uptoBulkAll, wp]
        omega

theorem rec_of {H : Type} {enc : TypeId × Value → H} {w : World} {base : Nat} {spare : Nat → Bool} {held : Bool} {n : Nat} {cs : List Value} {d : DataW H} {p : List MemPlace}
    (h : DataW.trod enc Tryd.prog w base spare held n 33 cs = some (d, p)) : ∃ x : RX, cs = rV x ∧ (PRow w x.2.2.1 x.2.2.2.2 ∧ x.2.2.2.2.length ≤ x.2.2.2.1 ∧ x.2.2.2.1 ≤ maxLen) ∧ wRc (said x) ≤ Rows.uptoBulk d := by
  obtain ⟨xs, n', rfl, hx, hl, hxl, hfi⟩ := DataW.trod_struct Tryd.underlying33 h
  have e2 : Tryd.prog.cellsOf 33 = 3 := by kernel_rfl
  rw [e2] at hl
  match cs, hl with
  | [x0, x1, x2], _ =>
    match xs, hxl with
    | [y0, y1, y2], _ =>
      have g0 := hfi 0 _ rfl
      have g1 := hfi 1 _ rfl
      have g2 := hfi 2 _ rfl
      have z0 : Tryd.prog.cellsOf 3 = 1 := by kernel_rfl
      have z1 : Tryd.prog.cellsOf 9 = 1 := by kernel_rfl
      have z2 : Tryd.prog.cellsOf 31 = 1 := by kernel_rfl
      simp [z0, z1, z2] at g0
      simp [z0, z1, z2] at g1
      simp [z0, z1, z2] at g2
      obtain ⟨ln, hf, hf2, _⟩ := DataW.trod_int Tryd.underlying3 g0
      obtain ⟨s, hs, hs2, _⟩ := DataW.trod_string Tryd.underlying9 g1
      have e3 : Tryd.prog.cellsOf 37 = 2 := by kernel_rfl
      obtain ⟨a, l, cap, hv, hr, _, hb, hc, hm⟩ := rows_of (([], []) : PR) pV 2 (fun _ => True) wp Tryd.underlying31 e3 (by decide) (fun x => ⟨_, rfl⟩) (d := y2.1) (p := y2.2) (fun n cs d p h => pair_of h) g2
      simp at hf hs
      refine ⟨(ln, s.data.toList, a, cap, l), ?_, ⟨hr, hc, hm⟩, ?_⟩
      · rw [hf, hs, hv]
        simp [rV, S_of]
      · injection hx with hx _
        rw [hx, hs2, hf2]
        simp [Rows.uptoBulk, Rows.uptoBulkAll, wRc, said]
        omega

/-- The records that came in. -/
theorem recs_of {H : Type} {enc : TypeId × Value → H} {w : World} {base : Nat} {spare : Nat → Bool} {held : Bool} {v : Value} {d : DataW H} {p : List MemPlace}
    (hf : DataW.Trod enc Tryd.prog w base spare held 22 v d p) (hv1 : v.cells = #[v]) : ∃ a L cap, v = .slice a L.length cap ∧ RRow w a L ∧ wt (L.map said) ≤ Rows.uptoBulk d := by
  obtain ⟨fuel, hf⟩ := hf
  rw [hv1] at hf
  have e3 : Tryd.prog.cellsOf 33 = 3 := by kernel_rfl
  obtain ⟨a, L, cap, hv, hr, hP, hb, _, _⟩ := rows_of ((0, [], none, 0, []) : RX) rV 3 (fun x => PRow w x.2.2.1 x.2.2.2.2 ∧ x.2.2.2.2.length ≤ x.2.2.2.1 ∧ x.2.2.2.1 ≤ maxLen) (fun x => wRc (said x)) Tryd.underlying22 e3 (by decide) (fun x => ⟨_, rfl⟩) (d := d) (p := p) (fun n cs d p h => rec_of h) hf
  refine ⟨a, L, cap, hv, ⟨hr, hP⟩, ?_⟩
  unfold wt
  rw [List.map_map]
  have e : (wRc ∘ said) = fun x => wRc (said x) := rfl
  rw [e]
  exact Nat.le_of_succ_le hb
end Lr
end Go.Proofs.YtkcncepfncdbhaaDoor
