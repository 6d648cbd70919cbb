import Derived.Test.YtdbhcemmaahemaaPgBel
import Derived.Test.YtdbhcemmaahemaaPgShelf
namespace Go.Proofs.Ytdbhcemmaahemaa
open Go.RowKit Go.Sort Go.Lib
open PgMath (Inc setOf cnt)
set_option linter.unusedVariables false
set_option maxRecDepth 100000

theorem below_drewN (B : Nat) (w : World) (q : Nat) : Below B w (w.drewN q) := ⟨rfl, rfl, rfl, Nat.le_refl _, fun _ _ => rfl⟩
theorem ownI_drewN {w : World} {B : Nat} {v : Value} {l : List Int} (h : OwnI w B v l) (q : Nat) : OwnI (w.drewN q) B v l := ownI_below h (below_drewN _ _ _)
theorem srchN : SrchN := search_any fun b off n c zs x w hz hb hc hs => Try.slices_BinarySearch_int b off n c zs x w hz hb hc hs

theorem clone_any (a : Option Addr) (l : List Int) (c : Nat) (w : World) (hr : NRow w a l) (hl : l.length * 8 ≤ 140737488355328) :
    Calls Try.prog 38 #[.slice a l.length c] w fun e w' => ∃ v, e = .returned v ∧ OwnI w' w.heap.size v l ∧ Below w.heap.size w w' := by
  cases a with
  | none =>
    have e : l = [] := by
      cases l with
      | nil => rfl
      | cons x l => obtain ⟨b, off, e, _⟩ := hr 0 (by simp); cases e
    subst e
    refine (Try.slices_Clone_int_nil 0 c w).mono ?_
    rintro e w' ⟨rfl, rfl⟩
    exact ⟨_, rfl, ownI_nil _ _, Below.refl _ _⟩
  | some x =>
    by_cases h0 : l.length = 0
    · have e : l = [] := List.eq_nil_of_length_eq_zero h0
      subst e
      refine (Try.slices_Clone_int_zero x c w).mono ?_
      rintro e w' ⟨v, rfl, h1, _, h2⟩
      exact ⟨v, rfl, h1, h2⟩
    · obtain ⟨b, off, e, _⟩ := hr 0 (by omega)
      injection e with e
      subst e
      refine (Try.slices_Clone_int b off l.length c l w (Nat.le_refl _) hl (fun j hj => ?_)).mono ?_
      · obtain ⟨b', off', e, h1⟩ := hr j hj
        injection e with e
        injection e with e1 e2
        subst e1 e2
        rw [h1]
        simp [List.getD, List.getElem?_eq_getElem hj]
      · rintro e w' ⟨v, rfl, h1, _, h2⟩
        rw [List.take_length] at h1
        exact ⟨v, rfl, h1, h2⟩
theorem sort_any (w : World) (B : Nat) (v : Value) (l : List Int) (h : OwnI w B v l) (hl : l.length ≤ 140737488355328) :
    Calls Try.prog 40 #[v] w fun e w' => e = .returned (.tuple #[]) ∧ OwnI w' B v (l.mergeSort fun x y => decide (x ≤ y)) ∧ w.grownBy w' v.ownBlock := by
  rcases ownI_form h with ⟨rfl, rfl⟩ | ⟨g, cap, rfl, hc, hm, hg, hB⟩
  · refine (Try.slices_Sort_int_none none 0 w).mono ?_
    rintro e w' ⟨rfl, rfl⟩
    refine ⟨rfl, ?_, ⟨rfl, rfl, rfl, Nat.le_refl _, fun _ _ _ => rfl⟩⟩
    have e : ([] : List Int).mergeSort (fun x y => decide (x ≤ y)) = [] := by simp
    rw [e]
    exact ownI_nil _ _
  · refine (Try.slices_Sort_int g 0 cap l w (holdsI h) hg (by omega)).mono ?_
    rintro e w' ⟨rfl, n, os, rfl⟩
    refine ⟨rfl, ?_, putI_grown _⟩
    have := putI_own (n := n) (os := os) (t := l.mergeSort fun x y => decide (x ≤ y)) (z := []) h (by simp)
    rw [List.append_nil] at this
    have e : (l.mergeSort fun x y => decide (x ≤ y)).length = l.length := by simp
    rw [e] at this
    exact this
theorem compact_any (w : World) (B : Nat) (v : Value) (l : List Int) (h : OwnI w B v l) (hl : l.length ≤ 140737488355328) :
    Calls Try.prog 41 #[v] w fun e w' => ∃ v', e = .returned v' ∧ OwnI w' B v' (Lib.compact l) ∧ w.grownBy w' v.ownBlock := by
  rcases ownI_form h with ⟨rfl, rfl⟩ | ⟨g, cap, rfl, hc, hm, hg, hB⟩
  · refine (Try.slices_Compact_int_empty none 0 w).mono ?_
    rintro e w' ⟨rfl, rfl⟩
    refine ⟨_, rfl, ?_, ⟨rfl, rfl, rfl, Nat.le_refl _, fun _ _ _ => rfl⟩⟩
    have e : Lib.compact ([] : List Int) = [] := rfl
    rw [e]
    exact ownI_nil _ _
  · refine (Try.slices_Compact_int g 0 cap l w (holdsI h) (by omega) hc).mono ?_
    rintro e w' ⟨rfl, q, rfl⟩
    have hcl := PgMath.compact_len l
    have := putI_own (n := q) (os := #[]) (t := Lib.compact l) (z := List.replicate (l.length - (Lib.compact l).length) 0) h (by simp; omega)
    have g2 := putI_grown (w := w) (g := g) (n := q) (os := #[]) (Lib.compact l ++ List.replicate (l.length - (Lib.compact l).length) 0).toArray
    rw [grow_none] at this g2
    exact ⟨_, rfl, this, g2⟩

set_option maxRecDepth 100000 in
set_option maxHeartbeats 1000000 in
theorem of_any (a : Option Addr) (l : List Int) (c : Nat) (w : World) (hr : NRow w a l) (hl : l.length * 8 ≤ 140737488355328) :
    Calls Try.prog 21 #[.slice a l.length c] w fun e w' => ∃ v, e = .returned v ∧ OwnI w' w.heap.size v (setOf l) ∧ Below w.heap.size w w' := by
  have hC := clone_any a l c w hr hl
  have hl' : Hid (l.length * 8 ≤ 140737488355328) := hl
  clear hr hl
  go_enter Try.func21, Try.ntmps21
  by_cases hI : Inc l
  · have hI' : Hid (Inc l) := hI
    go_wp2_with (first
      | (go_at_call 38; refine hC.mono ?_; rintro e w1 ⟨v1, rfl, hO1, hb1⟩; obtain ⟨a1, n1, c1, rfl⟩ := ownI_slice hO1; obtain ⟨hr1, rfl⟩ := ownI_row hO1)
      | (go_at_call 39; refine (rising_any l _ _ _ (by have := hl'.out; omega) hr1).mono ?_; rw [decide_eq_true hI'.out]; rintro e w2 ⟨rfl, q, rfl⟩))
    go_ret
    refine ⟨_, rfl, ?_, ?_⟩
    · unfold setOf
      rw [if_pos hI'.out]
      exact ownI_below hO1 ⟨rfl, rfl, rfl, Nat.le_refl _, fun _ _ => rfl⟩
    · exact hb1.trans ⟨rfl, rfl, rfl, Nat.le_refl _, fun _ _ => rfl⟩
  · have hI' : Hid (¬ Inc l) := hI
    go_wp2_with (first
      | (go_at_call 38; refine hC.mono ?_; rintro e w1 ⟨v1, rfl, hO1, hb1⟩; obtain ⟨a1, n1, c1, rfl⟩ := ownI_slice hO1; obtain ⟨hr1, rfl⟩ := ownI_row hO1)
      | (go_at_call 39; refine (rising_any l _ _ _ (by have := hl'.out; omega) hr1).mono ?_; rw [decide_eq_false hI'.out]; rintro e w2 ⟨rfl, q, rfl⟩)
      | (go_at_call 40; refine (sort_any (w1.drewN q) w.heap.size _ l (ownI_drewN hO1 q) (by have := hl'.out; omega)).mono ?_; rintro e w3 ⟨rfl, hO3, hg3⟩)
      | (go_at_call 41; refine (compact_any _ w.heap.size _ _ hO3 (by rw [List.length_mergeSort]; have := hl'.out; omega)).mono ?_; rintro e w4 ⟨v4, rfl, hO4, hg4⟩))
    go_ret
    refine ⟨_, rfl, ?_, ?_⟩
    · unfold setOf
      rw [if_neg hI'.out]
      exact hO4
    · have b2 : Below w.heap.size w (w1.drewN q) := hb1.trans ⟨rfl, rfl, rfl, Nat.le_refl _, fun _ _ => rfl⟩
      have b3 := b2.grown hg3 b2.size (fun j hj => (World.ownsRow.lt (show World.ownsRow _ _ 2 1 _ _ _ from hO1) j hj).1)
      exact b3.grown hg4 b3.size (fun j hj => (World.ownsRow.lt (show World.ownsRow _ _ 2 1 _ _ _ from hO1) j hj).1)
end Go.Proofs.Ytdbhcemmaahemaa
