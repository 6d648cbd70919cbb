import Derived.Test.YthpfnajgbocpnaaPtCni
import Derived.Deep.OwnRows
namespace Go.Proofs.Ythpfnajgbocpnaa
namespace Pt
open Go.RowKit Go.Sort Go.Lib Go.Shelf
open PtMath (Inc setOf cnt)
open PtHpM (Hd ky kf swpH Hp Gd sw)
open PtCnM (occ stepL Inn Out atl)
open PgSeq (Mv Still SeqT range_t)
set_option linter.unusedVariables false
set_option maxRecDepth 100000
open PtT (Rk TB en)
variable {Tk : PtT.Rk}
attribute [local go_sem] Oper.semAt_some

theorem info_is : (Try.prog.info? 23).map (fun i => (i.zero, i.size, i.bytes)) = some (some (.slice none 0 0), 1, 24) := by kernel_rfl
theorem make_sets (n : Nat) (hn : n * 24 ≤ 140737488355328) (W : World) : (Instr.makeSlice 22 (.int .i64 (n : Int)) (.int .i64 (n : Int))).run Try.prog W = .ok (.slice (some ⟨W.heap.size, 0, none⟩) n n) (W.alloc (.cells (madeCells #[.slice none 0 0] n) 23)) :=
  run_make_row' (P := Try.prog) 22 23 (.slice none 0 0) 24 Try.underlying22 info_is rfl .i64 .i64 n (by omega) (by omega) W
theorem counted_any (a : Option Addr) (n c : Nat) (w : World) : Calls Try.prog 23 #[.slice a n c] w fun e w' => e = .returned (.func (.func 29) #[] #[.pointer (some ⟨w.heap.size, 0, none⟩)]) ∧ w' = w.alloc (.cells #[.slice a n c] 22) := by
  go_enter Try.func23, Try.ntmps23
  go_wp2
  go_ret
  exact ⟨rfl, rfl⟩
/-- What AtLeast answers. -/
def AtlIs (k : Int) (L : List (List Nat)) (M : List Nat) : Prop := Inc M ∧ ∀ x, x ∈ M ↔ (k ≤ (occ L x : Int) ∧ 0 < occ L x)
theorem occ_some1 (Qs : List Hd) (x : Nat) : occ (lsts (some1 Qs)) x = occ (lsts Qs) x := by
  induction Qs with
  | nil => rfl
  | cons h T ih =>
    by_cases e : 0 < h.2.2.length
    · have e1 : some1 (h :: T) = h :: some1 T := by simp [some1, e]
      rw [e1]
      unfold lsts at ih ⊢
      rw [List.map_cons, List.map_cons, PtCnM.occ_cons, PtCnM.occ_cons, ih]
    · have e1 : some1 (h :: T) = some1 T := by simp [some1, e]
      have e2 : h.2.2 = [] := List.eq_nil_of_length_eq_zero (by omega)
      rw [e1, ih]
      unfold lsts
      rw [List.map_cons, PtCnM.occ_cons, e2]
      simp
theorem occ_set (D : List (List Nat)) (x : Nat) : occ (D.map setOf) x = occ D x := by
  induction D with
  | nil => rfl
  | cons l T ih => rw [List.map_cons, PtCnM.occ_cons, PtCnM.occ_cons, ih]; simp [PtMath.setOf_mem]
theorem tot_set (D : List (List Nat)) : tot (D.map setOf) ≤ tot D := by
  unfold tot
  induction D with
  | nil => simp
  | cons l T ih => simp only [List.map_cons, List.sum_cons]; have := PtMath.setOf_len l; omega
theorem tot_take (D : List (List Nat)) {l : List Nat} (h : l ∈ D) : l.length ≤ tot D := by
  unfold tot
  induction D with
  | nil => simp at h
  | cons m T ih =>
    simp only [List.map_cons, List.sum_cons]
    rcases List.mem_cons.1 h with e | e
    · subst e; omega
    · have := ih e; omega
/-- The sets, k of them laid. -/
def Laid (Tk : PtT.Rk) (w : World) (g : Nat) (Ss Qs : List Hd) (W : World) : Prop :=
  lsts Qs = (lsts (Ss.take Qs.length)).map setOf ∧ Qs.length ≤ Ss.length ∧ (∀ h ∈ Qs, Rd Tk W h.1 h.2.1 h.2.2) ∧ W.rowIs g 23 Ss.length (fun t => if t < Qs.length then hv (Qs.getD t (none, 0, [])) else .slice none 0 0) ∧ Below w.heap.size w W
theorem Laid.put {w : World} {g : Nat} {Ss Qs : List Hd} {W W' : World} (h : Laid Tk w g Ss Qs W) (hk : Qs.length < Ss.length) (hb : Below W.heap.size W W') (hg : w.heap.size ≤ g) {a : Option Addr} {c : Nat} (hr : Rd Tk W' a c (setOf Ss[Qs.length].2.2)) :
    Laid Tk w g Ss (Qs ++ [(a, c, setOf Ss[Qs.length].2.2)]) (W'.setCell ⟨g, Qs.length, none⟩ (.slice a (setOf Ss[Qs.length].2.2).length c)) := by
  obtain ⟨h1, h2, h3, h4, h5⟩ := h
  have h6 := World.rowIs.of_block h4 (hb.block _ (World.rowIs.lt h4))
  have hS : Below g W' (W'.setCell ⟨g, Qs.length, none⟩ (.slice a (setOf Ss[Qs.length].2.2).length c)) := Below.setCell (p := ⟨g, Qs.length, none⟩) (Below.refl g W') (Nat.le_refl g) _
  have hRd : ∀ (a' : Option Addr) (c' : Nat) (l : List Nat), Rd Tk W' a' c' l → Rd Tk (W'.setCell ⟨g, Qs.length, none⟩ (.slice a (setOf Ss[Qs.length].2.2).length c)) a' c' l := fun a' c' l q => by
    refine ⟨fun i hi => ?_, q.2⟩
    obtain ⟨b, off, e1, e2⟩ := q.1 i hi
    refine ⟨b, off, e1, ?_⟩
    rw [World.cell?_setCell_other _ _ _ _ ?_]
    · exact e2
    · intro e
      injection e with e e' _
      have h7 := World.rowIs.cell h6 hk
      rw [e, e', e2] at h7
      rw [if_neg (Nat.lt_irrefl _)] at h7
      cases h7
  refine ⟨?_, by simp; omega, fun x hx => ?_, ?_, ?_⟩
  · simp only [List.length_append, List.length_cons, List.length_nil]
    unfold lsts at h1 ⊢
    rw [List.map_append, h1, List.take_succ_eq_append_getElem hk, List.map_append, List.map_append]
    rfl
  · rcases List.mem_append.1 hx with hx | hx
    · exact hRd _ _ _ ((h3 x hx).below hb)
    · rw [List.mem_singleton] at hx
      subst hx
      exact hRd _ _ _ hr
  · refine World.rowIs.congr (World.rowIs.set h6 Qs.length (.slice a (setOf Ss[Qs.length].2.2).length c)) (fun i hi => ?_)
    rw [List.length_append, List.length_cons, List.length_nil]
    by_cases e1 : i = Qs.length
    · subst e1
      simp [hv, List.getD]
    · by_cases e2 : i < Qs.length
      · have e3 : i < Qs.length + (0 + 1) := by omega
        simp [e1, e2, e3, List.getD]
      · have e3 : ¬ i < Qs.length + (0 + 1) := by omega
        simp [e1, e2, e3]
  · exact (h5.trans (hb.mono h5.size)).trans (hS.mono hg)
/-- Where the walk over the counts begins. -/
theorem Laid.done {w : World} {g : Nat} {Ss Qs : List Hd} {W : World} (h : Laid Tk w g Ss Qs W) (hn : Qs.length = Ss.length) (o1 o2 : Obj) : SRow ((W.alloc o1).alloc o2) (some ⟨g, 0, none⟩) Qs ∧ (∀ x ∈ Qs, 0 < x.2.2.length → HdOk Tk ((W.alloc o1).alloc o2) W.heap.size x) ∧ lsts Qs = (lsts Ss).map setOf := by
  obtain ⟨h1, h2, h3, h4, h5⟩ := h
  have hb : Below W.heap.size W ((W.alloc o1).alloc o2) := ((Below.refl _ _).alloc (Nat.le_refl _) _).alloc (by simp) _
  refine ⟨fun i hi => ⟨g, 0, rfl, ?_⟩, fun x hx hl => ?_, ?_⟩
  · have h6 := World.rowIs.cell ((World.rowIs.alloc h4 o1).alloc o2) (i := i) (by omega)
    rw [Nat.zero_add, h6, if_pos hi]
    simp [List.getD, hi]
  · have hR := h3 x hx
    have hI : Inc x.2.2 := by
      have : x.2.2 ∈ lsts Qs := List.mem_map_of_mem hx
      rw [h1] at this
      obtain ⟨l, _, e⟩ := List.mem_map.1 this
      rw [← e]
      exact PtMath.setOf_inc l
    refine ⟨hR.1.below hb, ⟨hl, hR.2.1, hR.2.2.1, by have := hR.2.2.2; omega⟩, hI, fun y hy => ?_⟩
    obtain ⟨b, off, e1, e2⟩ := hR.1 0 hl
    rw [hy] at e1
    injection e1 with e1
    subst e1
    exact World.block_lt_of_cell? W _ e2
  · rw [h1, hn, List.take_length]
/-- What lies between two rounds of AtLeast. -/
def AtI (Tk : PtT.Rk) (w : World) (bo : Nat) (k : Int) (pre : List (Nat × Nat)) (W : World) : Prop :=
  (∃ v, Boxed W bo 23 v ∧ OwnI Tk W bo v (atl k pre)) ∧ Boxed W w.heap.size 3 (.int .i64 k) ∧ Below w.heap.size w W
theorem atI_own (w : World) (bo : Nat) (k : Int) (B : Nat) (hB : w.heap.size ≤ B) : OwnFrom B (AtI Tk w bo k) := by
  refine OwnFrom.and ?_ (OwnFrom.and (Own.from (boxed_own _ _ _) _) (ownFrom_below (Nat.le_refl _) hB))
  have h := holdsRow_own (β := List (Nat × Nat)) bo bo 23 9 1 (fun pre => (atl k pre).length) (fun pre => iv Tk (atl k pre)) (fun _ _ => True)
  intro s X Y row ⟨v, h1, h2⟩ hg hr
  obtain ⟨v', q1, q2, _⟩ := h s X Y row ⟨v, h1, h2, trivial⟩ hg (fun r e => (hr r e).2)
  exact ⟨v', q1, q2⟩
theorem kp_push {W w1 : World} {bo : Nat} {v v' : Value} {l : List Nat} {tmp : Obj} (hb : Boxed W bo 23 v) (hO : OwnI Tk W bo v l) (hg : (W.alloc tmp).grownBy w1 v.ownBlock) : ∀ (k : Nat) cs t fz, W.heap[k]? = some (Obj.cells cs t fz) → TT t = true → (w1.setCell ⟨bo, 0, none⟩ v').heap[k]? = some (Obj.cells cs t fz) := by
  intro k cs t fz hk ht
  have hlt : k < W.heap.size := (Array.getElem?_eq_some_iff.1 hk).1
  have h1 : k ≠ bo := fun e => by
    subst e
    rw [show W.heap[k]? = _ from hb] at hk
    injection hk with hk
    injection hk with _ hk
    subst hk
    exact absurd ht (by decide)
  have h2 : some k ≠ v.ownBlock := fun e => by
    rcases hO.2 with ⟨rfl, _⟩ | ⟨g, cap, cur, rfl, _, h4, _⟩
    · simp [Value.ownBlock] at e
    · simp [Value.ownBlock] at e
      subst e
      rw [h4] at hk
      injection hk with hk
      injection hk with _ hk
      subst hk
      exact absurd ht (by decide)
  rw [Below.heap_setCell _ _ _ _ h1, hg.block k (by simp; omega) h2, Below.heap_alloc _ _ _ hlt]
  exact hk
theorem atl_yes {k : Int} {pre : List (Nat × Nat)} {x : Nat × Nat} (h : k ≤ (x.2 : Int)) : atl k (pre ++ [x]) = atl k pre ++ [x.1] := by rw [PtCnM.atl_snoc, if_pos h]
theorem atl_no {k : Int} {pre : List (Nat × Nat)} {x : Nat × Nat} (h : ¬ k ≤ (x.2 : Int)) : atl k (pre ++ [x]) = atl k pre := by rw [PtCnM.atl_snoc, if_neg h, List.append_nil]
theorem boxed_mv {B : Nat} {W W' : World} {b : Nat} {t : TypeId} {v : Value} (h : Boxed W b t v) (hm : Mv TT B W W') (ht : TT t = false) : Boxed W' b t v := by
  rcases hm.2.2.2.2 b _ h with e | ⟨_, e | ⟨cs, t', fz, e, e'⟩⟩
  · exact e
  · cases e
  · injection e with _ e
    subst e
    rw [ht] at e'
    cases e'
theorem ownI_mv {B C : Nat} {W W' : World} {v : Value} {l : List Nat} (h : OwnI Tk W C v l) (hm : Mv TT B W W') : OwnI Tk W' C v l := by
  rcases h with ⟨h1, ⟨rfl, h2⟩ | ⟨g, cap, cur, rfl, h3, h4, h5⟩⟩
  · exact ⟨h1, Or.inl ⟨rfl, h2⟩⟩
  · refine ⟨h1, Or.inr ⟨g, cap, cur, rfl, h3, ?_, h5⟩⟩
    rcases hm.2.2.2.2 g _ h4 with e | ⟨_, e | ⟨cs, t', fz, e, e'⟩⟩
    · exact e
    · cases e
    · injection e with _ e
      subst e
      exact absurd e' (by decide)
theorem below_mv {B C : Nat} {w W W' : World} (h : Below C w W) (hw : C ≤ w.heap.size) (hC : C ≤ B) (hm : Mv TT B W W') : Below C w W' := by
  refine ⟨hm.1.trans h.os, hm.2.1.trans h.tape, hm.2.2.1.trans h.output, Nat.le_trans h.size hm.2.2.2.1, fun k hk => ?_⟩
  have h1 := h.block k hk
  have h2 : k < W.heap.size := by have := h.size; omega
  rw [← h1, Array.getElem?_eq_getElem h2]
  exact PgSeq.stands hm (Array.getElem?_eq_getElem h2) (by omega)
theorem atI_still (w : World) (bo : Nat) (k : Int) (B : Nat) (hB : w.heap.size ≤ B) : Still TT B (AtI Tk w bo k) := by
  intro s W W' ⟨⟨v, h1, h2⟩, h3, h4⟩ hm
  exact ⟨⟨v, boxed_mv h1 hm (by decide), ownI_mv h2 hm⟩, boxed_mv h3 hm (by decide), below_mv h4 (Nat.le_refl _) hB hm⟩
theorem atl_len (k : Int) (pre : List (Nat × Nat)) : (atl k pre).length ≤ pre.length := by
  unfold PtCnM.atl
  rw [List.length_map]
  exact List.length_filter_le _ _

set_option maxRecDepth 1000000 in
set_option maxHeartbeats 4000000 in
theorem atLeast_any (k : Int) (sa : Option Addr) (Ss : List Hd) (sc : Nat) (w : World) (hr : SRow w sa Ss) (hok : ∀ x ∈ Ss, Rd Tk w x.1 x.2.1 x.2.2) (hl : Ss.length * 24 ≤ 140737488355328) (ht : tot (lsts Ss) * 16 ≤ 140737488355328) :
    Calls Try.prog 13 #[.int .i64 k, .slice sa Ss.length sc] w fun e w' => ∃ v M, e = .returned v ∧ OwnI Tk w' w.heap.size v M ∧ AtlIs k (lsts Ss) M ∧ Below w.heap.size w w' := by
  have hS : Hid (SRow w sa Ss ∧ (∀ x ∈ Ss, Rd Tk w x.1 x.2.1 x.2.2) ∧ Ss.length * 24 ≤ 140737488355328 ∧ tot (lsts Ss) * 16 ≤ 140737488355328) := ⟨hr, hok, hl, ht⟩
  have sb : (Ss.length : Int) ≤ 17592186044416 := by omega
  obtain ⟨n, hn⟩ : ∃ n, Ss.length = n := ⟨_, rfl⟩
  rw [hn] at sb ⊢
  have hn' : Hid (Ss.length = n) := hn
  have hmk := make_sets n (by rw [← hn]; exact hl)
  have hL0 : Hid (Laid Tk w (w.heap.size + 1) Ss [] ((w.alloc (.cells #[.int .i64 k] 3)).alloc (.cells (madeCells #[.slice none 0 0] n) 23)) ∧ Boxed ((w.alloc (.cells #[.int .i64 k] 3)).alloc (.cells (madeCells #[.slice none 0 0] n) 23)) w.heap.size 3 (.int .i64 k)) := by
    refine ⟨⟨rfl, Nat.zero_le _, fun h hh => by simp at hh, ?_, ((Below.refl _ _).alloc (Nat.le_refl _) _).alloc (by simp) _⟩, (Boxed.new w _ _).alloc _⟩
    have h1 := World.rowIs_made (w.alloc (.cells #[.int .i64 k] 3)) (.slice none 0 0) n 23
    rw [World.size_alloc, ← hn] at h1
    rw [← hn]
    exact World.rowIs.congr h1 (fun t _ => by simp)
  clear hr hok hl ht hn
  refine (callsIn_wide (n := 3)).1 ?_
  refine callsIn_of_wp_marks Try.func13 rfl trivial ?_ rfl
  simp only [Try.ntmps13, List.size_toArray, List.length_cons, List.length_nil, Nat.reduceAdd, Nat.reduceSub, Array.replicate_succ, Array.replicate_zero, List.push_toArray, List.append_toArray, List.nil_append, List.cons_append]
  gi_wp2
  generalize ((w.alloc (.cells #[.int .i64 k] 3)).alloc (.cells (madeCells #[.slice none 0 0] n) 23)) = W1 at *
  clear hmk
  gi_loopw [16] (fun ivv wr => ∃ (j : Nat) (Qs : List Hd), ivv = .int .i64 (j : Int) ∧ j ≤ n ∧ Hid (Qs.length = j ∧ Laid Tk w (w.heap.size + 1) Ss Qs wr ∧ Boxed wr w.heap.size 3 (.int .i64 k))) (fun ivv _ => n - (intOf ivv).toNat)
  case atStart => exact ⟨0, [], rfl, Nat.zero_le _, rfl, hL0.out⟩
  case round =>
    obtain ⟨j, Qs, rfl, hj, hQ⟩ := hrel
    have j0 : (0 : Int) ≤ (j : Int) := Int.natCast_nonneg _
    by_cases hlt : j < n
    · have j1 : (j : Int) < (n : Int) := Int.ofNat_lt.2 hlt
      have hjS : j < Ss.length := by rw [hn'.out]; exact hlt
      obtain ⟨b, off, rfl, c1⟩ := (hS.out.1.below hQ.out.2.1.2.2.2.2) j hjS
      have hx := hS.out.2.1 _ (List.getElem_mem hjS)
      have hOr : Hid (Calls Try.prog 22 #[.slice Ss[j].1 Ss[j].2.2.length Ss[j].2.1] wr fun e w' => ∃ a' c', e = .returned (.slice a' (setOf Ss[j].2.2).length c') ∧ Rd Tk w' a' c' (setOf Ss[j].2.2) ∧ Below wr.heap.size wr w') := ordered_any _ _ _ wr (hx.below hQ.out.2.1.2.2.2.2)
      have hst : Hid (∀ w2, Below wr.heap.size wr w2 → (∃ y, w2.cell? ⟨w.heap.size + 1, j, none⟩ = some y) ∧ w2.frozen? ⟨w.heap.size + 1, j, none⟩ = false) := fun w2 hb2 => by
        have h6 := World.rowIs.of_block hQ.out.2.1.2.2.2.1 (hb2.block _ (World.rowIs.lt hQ.out.2.1.2.2.2.1))
        exact ⟨⟨_, World.rowIs.cell h6 hjS⟩, World.rowIs.frozen h6 j⟩
      have hput : Hid (∀ w2 a2 c2, Below wr.heap.size wr w2 → Rd Tk w2 a2 c2 (setOf Ss[j].2.2) → (Qs ++ [(a2, c2, setOf Ss[j].2.2)]).length = j + 1 ∧ Laid Tk w (w.heap.size + 1) Ss (Qs ++ [(a2, c2, setOf Ss[j].2.2)]) (w2.setCell ⟨w.heap.size + 1, j, none⟩ (.slice a2 (setOf Ss[j].2.2).length c2)) ∧ Boxed (w2.setCell ⟨w.heap.size + 1, j, none⟩ (.slice a2 (setOf Ss[j].2.2).length c2)) w.heap.size 3 (.int .i64 k)) := fun w2 a2 c2 hb2 hr2 => by
        obtain ⟨q1, q2, q3⟩ := hQ.out
        subst q1
        refine ⟨by simp, q2.put hjS hb2 (by omega) hr2, ?_⟩
        show (w2.setCell _ _).heap[w.heap.size]? = _
        rw [Below.heap_setCell _ _ _ _ (by show w.heap.size ≠ w.heap.size + 1; omega)]
        exact (hb2.block _ q3.lt).trans q3
      have hlt' : Hid (j < n) := hlt
      generalize Ss[j] = x at *
      obtain ⟨xa, xc, xl⟩ := x
      simp only [hv] at c1
      dsimp only at hOr hput
      clear hQ hj hlt hjS hx hL0
      gi_wp2_with (refine ⟨trivial, ?_⟩; gi_at_call 22; refine (callsIn_wide.2 hOr.out).mono ?_; rintro e w2 ⟨a2, c2, rfl, hr2, hb2⟩; obtain ⟨⟨y1, hy1⟩, hy2⟩ := hst.out w2 hb2)
      have hfin : Hid ((Qs ++ [(a2, c2, setOf xl)]).length = j + 1 ∧ Laid Tk w (w.heap.size + 1) Ss (Qs ++ [(a2, c2, setOf xl)]) (w2.setCell ⟨w.heap.size + 1, j, none⟩ (.slice a2 (setOf xl).length c2)) ∧ Boxed (w2.setCell ⟨w.heap.size + 1, j, none⟩ (.slice a2 (setOf xl).length c2)) w.heap.size 3 (.int .i64 k)) := hput.out w2 a2 c2 hb2 hr2
      clear hr2 hb2 hput hst hOr
      go_roundw
      case rel => exact ⟨j + 1, _, by simp, hlt'.out, hfin⟩
      case measure => have := hlt'.out; simp [intOf]; omega
    · have e : j = n := by omega
      subst e
      have j1 : ¬ (j : Int) < (j : Int) := by omega
      clear hlt hj hL0
      gi_wp2_with (refine ⟨trivial, ?_⟩; gi_at_call 23; refine (callsIn_wide.2 (counted_any _ _ _ _)).mono ?_; rintro e w3 ⟨rfl, rfl⟩)
      obtain ⟨hq1, hq2, hq3⟩ := hQ.out
      obtain ⟨hs1, hs2, hs3⟩ := hq2.done (hq1.trans hn'.out.symm) (.cells #[.slice none 0 0] 23) (.cells #[.slice (some ⟨w.heap.size + 1, 0, none⟩) j j] 22)
      have hBw := hq2.2.2.2.2
      have hcb : ((wr.alloc (.cells #[.slice none 0 0] 23)).alloc (.cells #[.slice (some ⟨w.heap.size + 1, 0, none⟩) j j] 22)).cell? ⟨wr.heap.size + 1, 0, none⟩ = some (.slice (some ⟨w.heap.size + 1, 0, none⟩) Qs.length j) := by
        rw [hq1]
        have := (Boxed.new (wr.alloc (.cells #[.slice none 0 0] 23)) 22 (.slice (some ⟨w.heap.size + 1, 0, none⟩) j j)).cell
        rwa [World.size_alloc] at this
      have hbo : Boxed ((wr.alloc (.cells #[.slice none 0 0] 23)).alloc (.cells #[.slice (some ⟨w.heap.size + 1, 0, none⟩) j j] 22)) wr.heap.size 23 (.slice none 0 0) := (Boxed.new wr _ _).alloc _
      have hbk : Boxed ((wr.alloc (.cells #[.slice none 0 0] 23)).alloc (.cells #[.slice (some ⟨w.heap.size + 1, 0, none⟩) j j] 22)) w.heap.size 3 (.int .i64 k) := (hq3.alloc _).alloc _
      have hB0 : Below w.heap.size w ((wr.alloc (.cells #[.slice none 0 0] 23)).alloc (.cells #[.slice (some ⟨w.heap.size + 1, 0, none⟩) j j] 22)) := (hBw.alloc hBw.size _).alloc (by have := hBw.size; simp; omega) _
      have hsz0 : ((wr.alloc (.cells #[.slice none 0 0] 23)).alloc (.cells #[.slice (some ⟨w.heap.size + 1, 0, none⟩) j j] 22)).heap.size = wr.heap.size + 2 := by simp
      have hqt : tot (lsts Qs) ≤ tot (lsts Ss) := by rw [hs3]; exact tot_set _
      have hqb : Qs.length * 24 ≤ 140737488355328 := by have := hS.out.2.2.1; rw [hq1, ← hn'.out]; exact this
      have hws := hBw.size
      have hfin : ∀ xs, Out (lsts (some1 Qs)) xs [] → AtlIs k (lsts Ss) (atl k xs) := fun xs hx => by
        have := PtCnM.atl_ok hx k
        refine ⟨this.1, fun x => ?_⟩
        rw [this.2 x, occ_some1, hs3, occ_set]
      generalize hW0 : ((wr.alloc (.cells #[.slice none 0 0] 23)).alloc (.cells #[.slice (some ⟨w.heap.size + 1, 0, none⟩) j j] 22)) = W0 at *
      obtain ⟨i0, hi, hz0, hz1, hz2⟩ := info_parts info_i64
      refine range_t (T := TT) rfl (by omega) (gf := 29) (lb := #[.pointer (some ⟨wr.heap.size + 1, 0, none⟩)]) rfl trivial (enters_of Try.func29 (by kernel_rfl) rfl)
        (counted_stops 2 (by omega) W0 (wr.heap.size + 1) wr.heap.size (some ⟨w.heap.size + 1, 0, none⟩) Qs j (tot (lsts Ss)) hcb hs1 hs2 (by omega) hqb hqt) KpC.trans (KpC.book (by omega)) (Below.refl _ _) (fun _ => rfl)
        (AtI Tk w wr.heap.size k) (fun _ _ _ => False) (atI_own _ _ _ _ (by omega)) (atI_still _ _ _ _ (by omega)) (fun _ _ _ _ _ hs _ _ => hs) (fun _ _ _ _ hs _ => hs) ⟨⟨_, hbo, ownI_nil _ _⟩, hbk, hB0⟩
        (fun x => { tmps := #[.int .i64 k, .slice sa j sc, .pointer (some ⟨w.heap.size, 0, none⟩), undef, .slice none 0 0, .slice (some ⟨w.heap.size + 1, 0, none⟩) j j, u6, u7, .pointer (some ⟨wr.heap.size, 0, none⟩), .string (TB Tk x.1), .int .i64 (x.2 : Int), .slice sa j sc, .int .i64 (j : Int), .slice (some ⟨w.heap.size + 1, 0, none⟩) j j, .slice sa j sc, .int .i64 (j : Int), .int .i64 (j : Int), .bool false, u18, u19, u20, u21, u22, u23, u24, u25, u26, .slice (some ⟨w.heap.size + 1, 0, none⟩) j j, .func (.func 29) #[] #[.pointer (some ⟨wr.heap.size + 1, 0, none⟩)], .string (TB Tk x.1), .int .i64 (x.2 : Int), undef, undef, undef, undef, undef, undef, undef, undef], defers := [] }) ?assign ?body ?done ?stop
      case assign =>
        intro l x W K hK
        gi_wp2
        exact hK
      case body =>
        rintro l pre x W hl hlr ⟨⟨v, hv1, hO⟩, hbk', hB⟩ hlen
        have c1 := hv1.cell
        have c2 := hbk'.cell
        have hvl : wr.heap.size ≤ W.heap.size := Nat.le_of_lt hv1.lt
        have htl := hS.out.2.2.2
        have hal := atl_len k pre
        by_cases hx : k ≤ (x.2 : Int)
        · have hpl : (atl k pre).length + 1 ≤ maxLen := by unfold maxLen; omega
          have hpb : ((atl k pre).length + 1) * 16 ≤ 140737488355328 := by omega
          have hrow : W.ownsRow wr.heap.size 9 1 v (atl k pre).length (iv Tk (atl k pre)) := hO
          have hyes : Hid (atl k (pre ++ [x]) = atl k pre ++ [x.1]) := atl_yes hx
          have hws' : Hid (w.heap.size ≤ wr.heap.size ∧ W0.heap.size = wr.heap.size + 2) := ⟨hws, hsz0⟩
          have hrest : Hid (OwnI Tk W wr.heap.size v (atl k pre) ∧ Boxed W w.heap.size 3 (.int .i64 k) ∧ Below w.heap.size w W) := ⟨hO, hbk', hB⟩
          have hne : w.heap.size ≠ wr.heap.size := fun e => by
            have h1 : Boxed W wr.heap.size 3 (.int .i64 k) := by rw [← e]; exact hbk'
            unfold Boxed at h1 hv1
            rw [hv1] at h1
            injection h1 with h1
            injection h1 with _ h1
            exact absurd h1 (by decide)
          clear htl hal hlen hfin hqt hqb hs1 hs2 hs3 hq1 hq2 hq3 hBw hW0 hcb hbo hbk hB0 hl hlr hQ hO hws hsz0 j1 hB
          gi_wp2_with (gi_at_builtin; refine wpListIn_append_own _ rfl _ _ 23 rfl wr.heap.size 9 i0 (.string ⟨#[]⟩) 1 16 Try.underlying23 hi hz0 hz1 hz2 rfl (by decide) _ _ _ rfl (hrow.alloc _) ⟨W.heap.size, 0, none⟩ 1 1 [.string (TB Tk x.1)] rfl rfl (cell_one_new _ _ _) (by simp [Value.oneCell']) (by omega) (by omega) (by simp; omega) ?_; intro v' w1 hown' hgrow _; obtain ⟨g', cap', rfl⟩ := ownsRow_succ hown'; obtain ⟨hv1', hv2, hr2, hk2, hb2⟩ := hv1.appended (by decide) hrow hvl (Nat.le_refl _) hown' hgrow; have hc1 := hv1'.cell; have hf1 := hv1'.frozen)
          refine ⟨hk2.from _, ⟨hb2, kp_push hv1 hrest.out.1 hgrow⟩, ⟨_, hv2, ?_⟩, ?_, ?_⟩
          · rw [hyes.out]
            unfold OwnI
            rw [iv_app, List.length_append]
            exact hr2
          · have h1 := hb2.block w.heap.size (by have := hws'.out.1; omega)
            exact h1.trans hrest.out.2.1
          · exact hrest.out.2.2.trans (hb2.mono hws'.out.1)
        · have hno : Hid (atl k (pre ++ [x]) = atl k pre) := atl_no hx
          have hrest : Hid (OwnI Tk W wr.heap.size v (atl k pre) ∧ Boxed W w.heap.size 3 (.int .i64 k) ∧ Below w.heap.size w W ∧ Boxed W wr.heap.size 23 v) := ⟨hO, hbk', hB, hv1⟩
          have hx' : (x.2 : Int) < k := by omega
          clear htl hal hlen hfin hqt hqb hs1 hs2 hs3 hq1 hq2 hq3 hBw hW0 hcb hbo hbk hB0 hl hlr hQ hO hws hsz0 j1 hB hv1 hx
          gi_wp2
          exact ⟨KeepsFrom.refl _ _, ⟨Below.refl _ _, fun _ _ _ _ h _ => h⟩, ⟨_, hrest.out.2.2.2, by rw [hno.out]; exact hrest.out.1⟩, hrest.out.2.1, hrest.out.2.2.1⟩
      case done =>
        rintro D ys W hD hout ⟨⟨v, hv1, hO⟩, hbk', hB⟩ hK
        have c1 := hv1.cell
        have hfin' : Hid (AtlIs k (lsts Ss) (atl k ys)) := hfin ys hout
        have hend : Hid (OwnI Tk (W.putObj D (.deferred none)) w.heap.size v (atl k ys) ∧ Below w.heap.size w (W.putObj D (.deferred none))) := by
          refine ⟨ownI_base (ownsRow_putObj hO _ hK rfl) hws, ?_⟩
          exact hB.trans (belowK_b (w := w) (Nat.le_refl _) W D _ _ (by omega) hK rfl rfl)
        obtain ⟨va, vn, vc, rfl⟩ := ownI_slice hO
        clear hfin hqt hqb hs1 hs2 hs3 hq1 hq2 hq3 hBw hW0 hcb hbo hbk hB0 hQ hO hws hsz0 j1 hB hv1 hbk' hout hD
        gi_wp2
        refine ⟨by simp, .inl ⟨_, _, rfl, run_takeDeferred hK, ?_⟩⟩
        exact ⟨_, results_tmp rfl _ _ _, .slice va vn vc, _, rfl, hend.out.1, hfin'.out, hend.out.2⟩
      case stop =>
        rintro D c pre W _ _ h _
        exact h.elim
set_option maxRecDepth 100000 in
theorem union_any (sa : Option Addr) (Ss : List Hd) (sc : Nat) (w : World) (hr : SRow w sa Ss) (hok : ∀ x ∈ Ss, Rd Tk w x.1 x.2.1 x.2.2) (hl : Ss.length * 24 ≤ 140737488355328) (ht : tot (lsts Ss) * 16 ≤ 140737488355328) :
    Calls Try.prog 9 #[.slice sa Ss.length sc] w fun e w' => ∃ v M, e = .returned v ∧ OwnI Tk w' w.heap.size v M ∧ AtlIs 1 (lsts Ss) M ∧ Below w.heap.size w w' := by
  have hA := atLeast_any 1 sa Ss sc w hr hok hl ht
  clear hr hok hl ht
  go_enter Try.func9, Try.ntmps9
  go_wp2_with (go_at_call 13; refine hA.mono ?_; rintro e w1 ⟨v1, M1, rfl, hO1, hM1, hb1⟩)
  go_ret
  exact ⟨_, M1, rfl, hO1, hM1, hb1⟩
set_option maxRecDepth 100000 in
theorem meet_none (sa : Option Addr) (sc : Nat) (w : World) : Calls Try.prog 11 #[.slice sa 0 sc] w fun e w' => e = .returned (.slice none 0 0) ∧ w' = w := by
  go_enter Try.func11, Try.ntmps11
  go_wp2_with fail
  go_ret
  exact ⟨rfl, rfl⟩
end Pt
end Go.Proofs.Ythpfnajgbocpnaa
