import Derived.Test.YtkanoloddpigdaaDoorDnRest
namespace Go.Proofs.YtkanoloddpigdaaDoor
open Go.RowKit
open DnMath (Tot lx tb tt ck tb_tot tt_tot ck_tot less_tt lx_front lx_between)
set_option linter.unusedVariables false

/-- A row, copied onto a list that has just been laid. -/
theorem copy_new (w : World) (l : List (List UInt8)) (a : Option Addr) (c : Nat) (hl : l.length * 16 ≤ 140737488355328) (h1 : Row w a l) :
    ∃ a' c' w1, (Builtin.append_ #[25, 25] 25 #[.slice (some ⟨w.heap.size, 0, none⟩) 0 0, .slice a l.length c]).run Tryd.prog (w.alloc (.cells #[] 9)) = .ok (.slice a' l.length c') w1 ∧ OwnS w1 w.heap.size (.slice a' l.length c') l ∧ l.length ≤ c' ∧ Below w.heap.size w w1 := by
  have hbE : Below w.heap.size w (w.alloc (.cells #[] 9)) := (Below.refl _ _).alloc (Nat.le_refl _) _
  obtain ⟨v1, w1, hr1, ho1, hb1⟩ := append_row _ w.heap.size _ [] l a l.length c (own_empty w) (h1.below hbE) rfl hbE.size (by simpa using hl)
  rw [List.nil_append] at ho1
  rcases ownS_form ho1 with ⟨rfl, rfl⟩ | ⟨g, cap, rfl, hc, _⟩
  · exact ⟨_, _, w1, hr1, ho1, Nat.le_refl _, hbE.trans hb1⟩
  · exact ⟨_, _, w1, hr1, ho1, hc, hbE.trans hb1⟩

set_option maxHeartbeats 1000000 in
theorem dnParent_any (l : List (List UInt8)) (a : Option Addr) (c : Nat) (w : World) (hl : l.length * 16 ≤ 140737488355328) (hc : l.length ≤ c) (h1 : Row w a l) :
    Calls Tryd.prog 11 #[.slice a l.length c] w fun e w' => ∃ a' c', e = .returned (.tuple #[.slice a' l.dropLast.length c', .bool (decide (0 < l.length))]) ∧ Row w' a' l.dropLast ∧ Below w.heap.size w w' := by
  by_cases h0 : l.length = 0
  · have := List.eq_nil_of_length_eq_zero h0
    subst this
    clear h0
    go_enter Tryd.func11, Tryd.ntmps11
    go_wp2_with fail
    go_ret2
    exact ⟨none, 0, rfl, Row.nil _ _, Below.refl _ _⟩
  · have hn : ((l.length : Int) == 0) = false := by rw [beq_eq_false_iff_ne]; omega
    have hdl : l.dropLast.length = l.length - 1 := List.length_dropLast
    have hrow : Row w a l.dropLast := Row.front (k := [l.getLast (by intro h; rw [h] at h0; simp at h0)]) (by rw [List.dropLast_concat_getLast]; exact h1)
    obtain ⟨v1, w1, hr1, ho1, hb1⟩ := append_row w w.heap.size (.slice none 0 0) [] l.dropLast a l.dropLast.length c (ownS_nil _ _) hrow rfl (Nat.le_refl _) (by rw [hdl]; simp; omega)
    rw [List.nil_append] at ho1
    obtain ⟨va, vc, rfl⟩ : ∃ va vc, v1 = .slice va l.dropLast.length vc := by
      rcases ownS_form ho1 with ⟨rfl, h⟩ | ⟨g, cap, rfl, _⟩
      · rw [h]; exact ⟨_, _, rfl⟩
      · exact ⟨_, _, rfl⟩
    have hfin : Hid (Row w1 va l.dropLast ∧ Below w.heap.size w w1) := ⟨(ownS_row ho1).1, hb1⟩
    have hpos : Hid (0 < l.length) := by unfold Hid; omega
    have n3 : wrap64 ((l.length : Int) - 1) = (l.dropLast.length : Int) := by
      rw [hdl, IntWalk.wrap64_in] <;> omega
    have n4 : (0 : Int) ≤ (l.dropLast.length : Int) := Int.natCast_nonneg _
    have n5 : l.dropLast.length ≤ c := by omega
    clear ho1 hb1 h1 hrow hc hl h0 hdl
    generalize l.dropLast.length = m at *
    go_enter Tryd.func11, Tryd.ntmps11
    go_wp2_with (at_builtin; refine Lib.wpList_append_run _ rfl _ _ _ _ rfl _ _ rfl rfl _ _ hr1 ?_)
    go_ret2
    exact ⟨va, vc, by rw [decide_eq_true hpos.out]; rfl, hfin.out⟩

end Go.Proofs.YtkanoloddpigdaaDoor
