import Derived.Test.YtndbbfbihheagaaDoorTyG
import Derived.OwnWalkIn
import Derived.TacticsInMore
import Derived.LoopNIn
import Derived.LoopIn
namespace Go.Proofs.YtndbbfbihheagaaDoor
namespace Ty
open Go.RowKit Go.Shelf
open Ak (KE EK kb OwnB)
open GSeq (StB SeqG range_g range_gn)
set_option linter.unusedVariables false
set_option maxRecDepth 100000

theorem pre_num {pre : List El} {x : El} (h : (pre ++ [x]).map Prod.fst <+: upF 62) : x.1.1 = pre.length ∧ pre.length < 62 := by
  have e : upF 62 = List.finRange 62 := by unfold upF; rw [List.take_of_length_le (by simp)]
  rw [e] at h
  have hl := h.length_le
  rw [List.length_map, List.length_append, List.length_finRange] at hl
  have hl' : pre.length + 1 ≤ 62 := hl
  have h1 : ((pre ++ [x]).map Prod.fst)[pre.length]? = some x.1 := by simp
  have h2 : ((pre ++ [x]).map Prod.fst)[pre.length]? = (List.finRange 62)[pre.length]? := by
    have := h.getElem (i := pre.length) (by simp)
    rw [List.getElem?_eq_getElem (by simp), List.getElem?_eq_getElem (by simp; omega), this]
  rw [h1, List.getElem?_eq_getElem (by simp; omega)] at h2
  injection h2 with h2
  rw [h2]
  exact ⟨by simp, by omega⟩
/-- What is read all the time. -/
structure Bs (w wM : World) (bw bq b wc : Nat) (mst : Int) : Prop where
  bel : Below w.heap.size w wM
  tab : NumT3 w
  most : Boxed wM w.heap.size 3 (.int .i64 mst)
  want : Boxed wM bw 22 (.slice (some ⟨b, 0, none⟩) 62 wc)
  seq : Boxed wM bq 25 (.func (.func 9) #[] #[])
  wnt : Wnt wM b
  mst1 : 1 ≤ mst ∧ mst ≤ 63
theorem wnt_at {W : World} {b p : Nat} (h : Wnt W b) (hp : p < 62) : ∃ bl, (∀ r v, (tC (⟨p, hp⟩, bl))[r]? = some v → W.cell? ⟨b, p * 6 + r, none⟩ = some v) ∧ RowIs W 0 ⟨p, hp⟩ (agT (⟨p, hp⟩, bl)) := by
  obtain ⟨ps, h1, h2, h3⟩ := h
  have hl : ps.length = 62 := by
    have := congrArg List.length h1
    rw [List.length_map, upF_len 62 (by omega)] at this
    exact this
  have hj : p < ps.length := by omega
  have e : ps[p].1 = ⟨p, hp⟩ := by
    have h4 : (ps.map Prod.fst)[p]? = (upF 62)[p]? := by rw [h1]
    have e2 : upF 62 = List.finRange 62 := by unfold upF; rw [List.take_of_length_le (by simp)]
    rw [e2, List.getElem?_map, List.getElem?_eq_getElem hj, List.getElem?_eq_getElem (by simp; omega)] at h4
    simp at h4
    rw [h4]
  have e3 : ps[p] = (⟨p, hp⟩, ps[p].2) := by rw [← e]
  refine ⟨ps[p].2, fun r v hv => h2 p hj r v (by rw [e3]; exact hv), ?_⟩
  have := h3 ps[p] (List.getElem_mem hj)
  rw [e3] at this
  exact this
theorem KB.reb {W : World} {B bb nb : Nat} {bv : Value} {bs : List KE} (h : KB W B bb nb bv bs) : KB W B bb W.heap.size bv bs :=
  ⟨h.book, fun x hx => ⟨(h.all x hx).1, fun g hg => ⟨((h.all x hx).2 g hg).1, ((h.all x hx).2 g hg).2.1, by have := (h.all x hx).1.2.1 g hg; omega⟩⟩, fun g hg => ⟨(h.out g hg).1, by have := (Ak.ownB_lt h.book hg).2; omega⟩, h.mrk⟩
theorem St.next {wM W : World} {bb nb p : Nat} {bv : Value} {bs : List KE} (h : St wM bb nb p bv bs W) : St wM bb nb (p + 1) bv bs (W.setCell ⟨nb, 0, none⟩ (.int .i64 ((p : Int) + 1))) := by
  have hc : Ak.Ch (fun g => g = nb) W (W.setCell ⟨nb, 0, none⟩ (.int .i64 ((p : Int) + 1))) := Ak.Ch.set W _ _ rfl
  exact ⟨h.bel.setCell (by show wM.heap.size ≤ nb; have := h.lo; omega) _, h.box.other (by have := h.lo.2; omega) _, by have := h.nbx.set (.int .i64 ((p : Int) + 1)); simpa using this, h.kbk.ch hc (fun g hg q => (h.kbk.out g hg).2 q) (fun x hx g hg q => ((h.kbk.all x hx).2 g hg).2.2 q), h.lo⟩
/-- What is no cells stands. -/
def Nc (A W : World) : Prop := ∀ (k : Nat) (o : Obj), A.heap[k]? = some o → o.isCells = false → W.heap[k]? = some o
theorem Nc.refl (A : World) : Nc A A := fun _ _ h _ => h
theorem Nc.chT {M : Nat} {A W W' : World} (h : Nc A W) (hc : ChT M W W') : Nc A W' := fun k o hk ho => by
  rcases hc.2.2.2.2 k o (h k o hk ho) with q | ⟨_, cs, t, fz, rfl, _⟩
  · exact q
  · cases ho
theorem Nc.own {A W W' : World} {row : Option Nat} {B : Nat} (h : Nc A W) (hA : A.heap.size ≤ B) (hg : W.grownBy W' row) (hr : ∀ r, row = some r → B ≤ r ∧ ∃ o : Obj, W.heap[r]? = some o ∧ o.isCells = false) : Nc A W' := fun k o hk ho => by
  have h1 := h k o hk ho
  exact (hg.block k (Array.getElem?_eq_some_iff.1 h1).1 (fun e => by have := (hr k e.symm).1; have := (Array.getElem?_eq_some_iff.1 hk).1; omega)).trans h1
/-- Between the rounds of the outer loop. -/
def Sb (wM : World) (bb c0 : Nat) (W : World) : Prop := ∃ nb bv bs, Below wM.heap.size wM W ∧ Boxed W bb 27 bv ∧ KB W wM.heap.size bb nb bv bs ∧ bs.length = 2 * c0 ∧ wM.heap.size ≤ bb
theorem Sb.of {wM W : World} {bb nb p c0 : Nat} {bv : Value} {bs : List KE} (h : St wM bb nb p bv bs W) (hl : bs.length = 2 * c0) : Sb wM bb c0 W := ⟨nb, bv, bs, h.bel, h.box, h.kbk, hl, h.lo.1⟩
theorem Sb.start {wM A : World} {bb c0 : Nat} (h : Sb wM bb c0 A) : ∃ bv bs, St wM bb A.heap.size 0 bv bs (A.alloc (.cells #[.int .i64 0] 3)) ∧ bs.length = 2 * c0 := by
  obtain ⟨nb, bv, bs, h1, h2, h3, h4, h5⟩ := h
  have hb : Below A.heap.size A (A.alloc (.cells #[.int .i64 0] 3)) := (Below.refl _ _).alloc (Nat.le_refl _) _
  exact ⟨bv, bs, ⟨h1.trans (hb.mono h1.size), h2.alloc _, Boxed.new A _ _, h3.reb.below hb, h5, h2.lt⟩, h4⟩
def RgI (wM A : World) (bb nb c0 : Nat) (mst : Int) (pre : List El) (W : World) : Prop := ∃ bv bs, St wM bb nb pre.length bv bs W ∧ bs.length = 2 * (c0 + pre.length) ∧ (pre.length : Int) < mst ∧ Nc A W
def RgX (wM A : World) (bb nb c0 : Nat) (mst : Int) (c : Code) (pre : List El) (W : World) : Prop := c = .exit 2 ∧ ∃ bv bs, St wM bb nb pre.length bv bs W ∧ bs.length = 2 * (c0 + pre.length) ∧ (pre.length : Int) = mst ∧ Nc A W
theorem rgI_own {wM A : World} {bb nb c0 : Nat} {mst : Int} {B : Nat} (hM : wM.heap.size ≤ B) (hA : A.heap.size ≤ B) : OwnFrom B (RgI wM A bb nb c0 mst) := by
  rintro pre W W' row ⟨bv, bs, h1, h2, h3, h4⟩ hg hr
  exact ⟨bv, bs, h1.own hg hM hr, h2, h3, h4.own hA hg hr⟩
theorem rgX_own {wM A : World} {bb nb c0 : Nat} {mst : Int} {B : Nat} (hM : wM.heap.size ≤ B) (hA : A.heap.size ≤ B) (c : Code) : OwnFrom B (RgX wM A bb nb c0 mst c) := by
  rintro pre W W' row ⟨h0, bv, bs, h1, h2, h3, h4⟩ hg hr
  exact ⟨h0, bv, bs, h1.own hg hM hr, h2, h3, h4.own hA hg hr⟩
/-- How a round begins. -/
def AxI (wM A : World) (bb nb c0 : Nat) (mst : Int) (pre : List El) (x : El) (B rb : Nat) (W : World) : Prop :=
  W.heap[rb]? = some (.cells (tC x).toArray 32 (0, 0)) ∧ B ≤ W.heap.size ∧ GT x B W ∧ x.1.1 = pre.length ∧ ∃ bv bs, St wM bb nb pre.length bv bs W ∧ bs.length = 2 * (c0 + pre.length) ∧ (pre.length : Int) < mst ∧ Nc A W ∧ Fr B bb nb bv bs ∧ wM.heap.size ≤ B
theorem gt_own {W W' : World} {x : El} {B : Nat} {row : Option Nat} (h : GT x B W) (hg : W.grownBy W' row) (hr : ∀ r, row = some r → ∃ o : Obj, W.heap[r]? = some o ∧ o.isCells = false) : GT x B W' :=
  ⟨ownS_of h.1 (fun g hg' => by obtain ⟨cs, hc⟩ := ownS_cells h.1 hg'; exact hg.block g (Array.getElem?_eq_some_iff.1 hc).1 (row_ne hc hr)), h.2⟩
theorem axI_own {wM A : World} {bb nb c0 : Nat} {mst : Int} {B0 : Nat} (hM : wM.heap.size ≤ B0) (hA : A.heap.size ≤ B0) (pre : List El) (x : El) (B rb : Nat) : OwnFrom B0 (fun (_ : Unit) W => AxI wM A bb nb c0 mst pre x B rb W) := by
  rintro _ W W' row ⟨h1, h2, h3, h4, bv, bs, h5, h6, h7, h8, h9⟩ hg hr
  have hr' : ∀ r, row = some r → ∃ o : Obj, W.heap[r]? = some o ∧ o.isCells = false := fun r e => (hr r e).2
  exact ⟨(hg.block rb (Array.getElem?_eq_some_iff.1 h1).1 (row_ne h1 hr')).trans h1, Nat.le_trans h2 hg.size, gt_own h3 hg hr', h4, bv, bs, h5.own hg hM hr, h6, h7, h8.own hA hg hr, h9⟩
/-- The inner ranging: only its own count is turned. -/
def RiI (V : World) (pre : List El) (W : World) : Prop := Boxed W V.heap.size 3 (.int .i64 (pre.length : Int)) ∧ Below V.heap.size V W
theorem riI_own {V : World} {B : Nat} (hB : V.heap.size < B) : OwnFrom B (RiI V) := by
  rintro pre W W' row ⟨h1, h2⟩ hg hr
  exact ⟨h1.kept hg (row_ne h1 (fun r e => (hr r e).2)), h2.grown hg h2.size (fun k e => by have := (hr k e).1; omega)⟩
def AxJ (V : World) (pre : List El) (x : El) (B rb : Nat) (W : World) : Prop :=
  W.heap[rb]? = some (.cells (tC x).toArray 32 (0, 0)) ∧ GT x B W ∧ x.1.1 = pre.length ∧ RiI V pre W ∧ V.heap.size < rb
theorem axJ_own {V : World} {B0 : Nat} (hB : V.heap.size < B0) (pre : List El) (x : El) (B rb : Nat) : OwnFrom B0 (fun (_ : Unit) W => AxJ V pre x B rb W) := by
  rintro _ W W' row ⟨h1, h2, h3, h4, h5⟩ hg hr
  have hr' : ∀ r, row = some r → ∃ o : Obj, W.heap[r]? = some o ∧ o.isCells = false := fun r e => (hr r e).2
  exact ⟨(hg.block rb (Array.getElem?_eq_some_iff.1 h1).1 (row_ne h1 hr')).trans h1, gt_own h2 hg hr', h3, riI_own hB pre W W' row h4 hg hr, h5⟩
theorem gt_below {W W' : World} {x : El} {B : Nat} (h : GT x B W) (hb : Below W.heap.size W W') : GT x B W' := ⟨Ak.ownS_below h.1 hb, h.2⟩
theorem gt_slice {W : World} {x : El} {B : Nat} (h : GT x B W) : ∃ a c, x.2 = .slice a (aliL x.1).length c := Ak.own_base2 h.1
theorem aliL_len (i : Fin 62) : (aliL i).length ≤ 1 := by unfold aliL; split <;> simp
/-- The cells that regions 15 and 28 read. -/
theorem ss_of {W : World} {nb bw rb b p wc : Nat} {i : Fin 62} {al bl : Value} (h1 : W.cell? ⟨nb, 0, none⟩ = some (.int .i64 (p : Int))) (h2 : W.cell? ⟨bw, 0, none⟩ = some (.slice (some ⟨b, 0, none⟩) 62 wc)) (h3 : W.heap[rb]? = some (.cells (tC (i, al)).toArray 32 (0, 0))) (h4 : ∀ r v, (tC (i, bl))[r]? = some v → W.cell? ⟨b, p * 6 + r, none⟩ = some v) :
    SS nb bw rb b p wc (rowL i).1 (rowL i).2.2 (supN i) (SYN.getD i.1 0) (USG.getD i.1 0) al bl W := by
  have k : ∀ r v, (tC (i, al))[r]? = some v → W.cell? ⟨rb, r, none⟩ = some v := fun r v hv => by
    rw [cell_of_row W rb r _ _ _ h3]
    simpa using hv
  exact ⟨h1, h2, k 0 _ rfl, k 1 _ rfl, k 2 _ rfl, k 3 _ rfl, k 4 _ rfl, k 5 _ rfl, h4 0 _ rfl, h4 1 _ rfl, h4 2 _ rfl, h4 3 _ rfl, h4 4 _ rfl, h4 5 _ rfl⟩
theorem boxed_bel {W W' : World} {B b : Nat} {t : TypeId} {v : Value} (h : Boxed W b t v) (hb : Below B W W') (hlt : b < B) : Boxed W' b t v := (hb.block b hlt).trans h
theorem keepsFrom_below {B : Nat} {W W' : World} (h : Below W.heap.size W W') : KeepsFrom B W W' := ⟨h.size, fun k o _ hk _ => (h.block k (Array.getElem?_eq_some_iff.1 hk).1).trans hk⟩
end Ty
end Go.Proofs.YtndbbfbihheagaaDoor
