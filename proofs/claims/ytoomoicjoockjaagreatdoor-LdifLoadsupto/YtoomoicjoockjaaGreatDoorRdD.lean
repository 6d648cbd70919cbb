import Derived.Test.YtoomoicjoockjaaGreatDoorRdC
import Derived.Test.YtoomoicjoockjaaGreatDoorGLu
import Derived.Test.YtoomoicjoockjaaGreatDoorGSeM
namespace Go.Proofs.YtoomoicjoockjaaGreatDoor
namespace Rd
open Go.RowKit Go.Shelf
open LdMath
attribute [local go_sem] Oper.semAt_some
set_option linter.unusedVariables false

/-- The number of the line that was told last. -/
def lastN (pre : List Ln) : Nat := (pre.getLast?.map (fun x => x.1.1)).getD 0
theorem lastN_snoc (pre : List Ln) (x : Ln) : lastN (pre ++ [x]) = x.1.1 := by simp [lastN]
theorem lastN_phys (b : List UInt8) (xs : List Ln) (h : vals xs = phys b) : lastN xs = (phys b).length := by
  rw [← h, vals_len]
  rcases List.eq_nil_or_concat xs with rfl | ⟨l, x, rfl⟩
  · rfl
  · rw [List.concat_eq_append] at h ⊢
    rw [lastN_snoc]
    have hl : l.length < (phys b).length := by rw [← h, vals_len]; simp
    have h1 := phys_num b l.length hl
    have h2 : (phys b)[l.length] = x.1 := by
      have : (phys b)[l.length]? = some x.1 := by rw [← h]; simp [vals]
      rw [List.getElem?_eq_getElem hl] at this
      injection this
    rw [h2] at h1
    rw [h1]
    simp
def EnI (s : ByteArray) (r0 : Nat) (w : World) (pre : List Ln) (W : World) : Prop :=
  W.heap[r0]? = some (.cells #[.int .i64 ((lastN pre + 1 : Nat) : Int)] 3 (0, 0)) ∧ W.heap[r0 + 1]? = some (.cells #[.string s] 9 (0, 0)) ∧ Below r0 w W ∧ r0 = w.heap.size
theorem enI_own (s : ByteArray) (r0 B : Nat) (w : World) (hB : r0 + 2 ≤ B) : OwnFrom B (EnI s r0 w) := by
  rintro pre A Y row ⟨i1, i2, i3, i4⟩ hg hr
  have ne : ∀ x, x < B → some x ≠ row := fun x hx e => by have := (hr x e.symm).1; omega
  have bk : ∀ x, x < B → x < A.heap.size → Y.heap[x]? = A.heap[x]? := fun x hx hs => hg.block x hs (ne x hx)
  refine ⟨(bk _ (by omega) (Array.getElem?_eq_some_iff.1 i1).1).trans i1, (bk _ (by omega) (Array.getElem?_eq_some_iff.1 i2).1).trans i2, ?_, i4⟩
  exact i3.grown hg (by rw [i4]; exact i3.size) (fun k e => by have := (hr k e).1; omega)
set_option maxRecDepth 1000000 in
set_option maxHeartbeats 4000000 in
theorem endOf_any (s : ByteArray) (hs : s.size ≤ 4194304) (w : World) :
    Calls Tryz.prog 14 #[.string s] w fun e w' => e = .returned (.int .i64 (((phys s.data.toList).length + 1 : Nat) : Int)) ∧ Below w.heap.size w w' := by
  refine (callsIn_wide (n := 3)).1 ?_
  refine callsIn_of_wp_marks Tryz.func14 rfl trivial ?_ rfl
  simp only [Tryz.ntmps14, List.size_toArray, List.length_cons, List.length_nil, Nat.reduceAdd, Nat.reduceSub, Array.replicate_succ, Array.replicate_zero, List.push_toArray, List.append_toArray, List.nil_append, List.cons_append]
  gi_wp2_with (refine ⟨trivial, ?_⟩; gi_at_call 17; refine (callsIn_wide.2 (physical_any _ _)).mono ?_; rintro e w' ⟨rfl, rfl⟩)
  obtain ⟨W0, hW0⟩ : ∃ W0, ((w.alloc (.cells #[.int .i64 1] 3)).alloc (.cells #[.string s] 9)) = W0 := ⟨_, rfl⟩
  rw [hW0]
  have hsz : W0.heap.size = w.heap.size + 2 := by rw [← hW0]; simp
  have HB0 : Below w.heap.size w W0 := by rw [← hW0]; exact ((Below.refl _ _).alloc (Nat.le_refl _) _).alloc (by simp) _
  have hU0 : EnI s w.heap.size w [] W0 := by
    refine ⟨?_, ?_, HB0, rfl⟩
    · rw [← hW0, Below.heap_alloc _ _ _ (by simp)]
      exact heap_alloc_last w _
    · rw [← hW0]
      have h := heap_alloc_last (w.alloc (.cells #[.int .i64 1] 3)) (.cells #[.string s] 9)
      simp only [World.size_alloc] at h
      exact h
  clear hW0
  obtain ⟨r0, hr0⟩ : ∃ r0, w.heap.size = r0 := ⟨_, rfl⟩
  rw [hr0] at hsz hU0 HB0 ⊢
  refine wpIn_rangeFunc_ownG_of_H rfl (by omega) (gf := 31) (lb := #[.pointer (some ⟨r0 + 1, 0, none⟩)]) rfl trivial (enters_of Tryz.func31 (by kernel_rfl) rfl) (physical_stops 2 (by omega) s hs (r0 + 1) W0 hU0.2.1)
    (fun h k => h.trans k) (kp_put (by omega)) (Below.refl _ _) (fun _ => rfl) (EnI s r0 w) (fun _ _ _ => False) (enI_own s r0 _ w (by omega)) (fun c s W W' row h _ _ => h.elim) hU0
    (fun x => { tmps := #[.string s, undef, .int .i64 0, .pointer (some ⟨r0, 0, none⟩), .int .i64 (x.1.1 : Int), .string s, .func (.func 31) #[] #[.pointer (some ⟨r0 + 1, 0, none⟩)], .int .i64 (x.1.1 : Int), .string (S x.1.2), undef, undef, undef], defers := [] })
    ?assign ?body ?done ?stop (KP.refl _)
  case assign =>
    intro l x W K hK
    gi_wp2
    exact hK
  case body =>
    rintro l pre x W ⟨i1, i2, i3, i4⟩ hlt
    have c0 := row1 i1
    have f0 := Go.frozen_of_row W r0 0 _ _ i1
    have hx1 : (x.1.1 : Int) < 8388608 := by have := x.2.1; omega
    have hx0 : (0 : Int) ≤ (x.1.1 : Int) := Int.natCast_nonneg _
    have hend : Hid (KeepsFrom W0.heap.size W (W.setCell ⟨r0, 0, none⟩ (.int .i64 ((x.1.1 : Int) + 1))) ∧ KP (r0 + 1) W (W.setCell ⟨r0, 0, none⟩ (.int .i64 ((x.1.1 : Int) + 1))) ∧ EnI s r0 w (pre ++ [x]) (W.setCell ⟨r0, 0, none⟩ (.int .i64 ((x.1.1 : Int) + 1)))) := by
      have g1 := Go.heap_setCell_same W r0 0 _ _ (.int .i64 ((x.1.1 : Int) + 1)) i1
      have oth : ∀ b, b ≠ r0 → (W.setCell ⟨r0, 0, none⟩ (.int .i64 ((x.1.1 : Int) + 1))).heap[b]? = W.heap[b]? := fun b hb => Below.heap_setCell _ _ _ _ hb
      refine ⟨(KeepsOthers.setCell _ _ _).from _, ⟨by simp, oth _ (by omega), fun b s' p hb => oth b (fun e => by subst e; rw [i1] at hb; injection hb with hb; cases hb)⟩, ?_, (oth _ (by omega)).trans i2, i3.setCell (p := ⟨r0, 0, none⟩) (by simp) _, i4⟩
      rw [g1, lastN_snoc]
      rfl
    generalize (x.1.1 : Int) = xn at *
    clear i1 i2 i3 i4 hU0 HB0 hsz
    gi_wp2
    exact hend.out
  case done =>
    rintro D xs W hD hS ⟨i1, i2, i3, i4⟩ hK
    rw [lastN_phys _ _ hS] at i1
    have c0 := row1 i1
    have hH : Hid (Below r0 w W ∧ r0 + 2 ≤ D) := ⟨i3, by omega⟩
    clear i1 i2 i3 i4 hU0 HB0 hsz hS hD
    gi_wp2
    refine ⟨by simp, .inl ⟨_, _, rfl, run_takeDeferred hK, ?_⟩⟩
    have hg := grownBy_putObj' W D (.deferred none)
    refine ⟨_, results_tmp rfl _ _ _, rfl, ?_⟩
    rw [hr0]
    exact hH.out.1.grown hg (by have := hH.out.1.size; omega) (fun k e => by injection e with e; have := hH.out.2; omega)
  case stop =>
    rintro D c pre W hD hSp h
    exact h.elim
end Rd
end Go.Proofs.YtoomoicjoockjaaGreatDoor
