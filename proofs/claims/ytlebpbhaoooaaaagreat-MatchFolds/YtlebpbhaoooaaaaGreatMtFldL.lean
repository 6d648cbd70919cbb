import Derived.Test.YtlebpbhaoooaaaaGreatMtFldP
import Derived.Test.YtlebpbhaoooaaaaGreatMtDig
namespace Go.Proofs.YtlebpbhaoooaaaaGreat
open Go.RowKit
open TextMath (fold squeeze check lo bl sqA sqB)
open MtFldM (swp)
set_option linter.unusedVariables false

/-- Equal of SynText, SynExact, SynIA5, SynPhone, SynNumeric, of texts as lists. -/
def eqT (ba bv : Bool) (x y : List UInt8) : Value := tvE ba (bv && ((nrmL bv x).toList == (nrmL ba y).toList))
theorem eqT_yes (x : List UInt8) : eqT true true x x = .int .i64 2 := by unfold eqT tvE; simp
theorem eqT_of (x y : List UInt8) : eqT true true x y = .int .i64 (if decide (x = y) then 2 else 0) := by
  unfold eqT tvE nrmL
  simp only [if_true, Bool.true_and]
  rw [toL_S, toL_S]
  by_cases h : x = y
  · simp [h]
  · simp [h]
theorem eqT_undef (bv : Bool) (x y : List UInt8) : eqT false bv x y = .int .i64 1 := rfl
theorem textEq_any (v a : List UInt8) (hv : v.length ≤ 281474976710656) (ha : a.length ≤ 281474976710656) (w : World) : Calls Tryz.prog 4 #[.int .i64 1, .string (S v), .string (S a)] w fun e w' => e = .returned (eqT (exOk a) (exOk v) (squeeze (fold v)) (squeeze (fold a))) ∧ Below w.heap.size w w' := by
  have := equalG_any 1 _ _ _ synFo foAt foWalked (S v) _ (S a) _ _ _ (foN_any (S v) (by rw [S_size]; exact hv)) (foN_any (S a) (by rw [S_size]; exact ha)) w
  rw [S_l, S_l, MtFldM.exOk_fold, MtFldM.exOk_fold] at this
  exact this
theorem exactEq_any (v a : List UInt8) (hv : v.length ≤ 281474976710656) (ha : a.length ≤ 281474976710656) (w : World) : Calls Tryz.prog 4 #[.int .i64 2, .string (S v), .string (S a)] w fun e w' => e = .returned (eqT (exOk a) (exOk v) (squeeze v) (squeeze a)) ∧ Below w.heap.size w w' := by
  have := equalG_any 2 _ _ _ synEx exAt exWalked (S v) _ (S a) _ _ _ (exN_any (S v) (by rw [S_size]; exact hv)) (exN_any (S a) (by rw [S_size]; exact ha)) w
  rw [S_l, S_l] at this
  exact this
theorem ia5Eq_any (v a : List UInt8) (hv : v.length ≤ 281474976710656) (ha : a.length ≤ 281474976710656) (w : World) : Calls Tryz.prog 4 #[.int .i64 3, .string (S v), .string (S a)] w fun e w' => e = .returned (eqT (asc (fold a)) (asc (fold v)) (squeeze (fold v)) (squeeze (fold a))) ∧ Below w.heap.size w w' := by
  have := equalG_any 3 _ _ _ synFi fiAt fiWalked (S v) _ (S a) _ _ _ (fiN_any (S v) (by rw [S_size]; exact hv)) (fiN_any (S a) (by rw [S_size]; exact ha)) w
  rw [S_l, S_l] at this
  exact this
theorem phoneEq_any (m : Int) (v a : List UInt8) (hv : v.length ≤ 4194304) (ha : a.length ≤ 4194304) (w : World) (hM : MaxL m w) : Calls Tryz.prog 4 #[.int .i64 6, .string (S v), .string (S a)] w fun e w' => e = .returned (eqT (phOk a) (phOk v) (phN v) (phN a)) ∧ Below w.heap.size w w' :=
  equalW_any m 6 _ _ _ synPh phAt phWalked (S v) _ (S a) _ _ _ (fun W h => phN_any m v hv W h) (fun W h => phN_any m a ha W h) w hM
theorem numEq_any (m : Int) (v a : List UInt8) (hv : v.length ≤ 4194304) (ha : a.length ≤ 4194304) (w : World) (hM : MaxL m w) : Calls Tryz.prog 4 #[.int .i64 5, .string (S v), .string (S a)] w fun e w' => e = .returned (eqT (nuOk a) (nuOk v) (Lib.replaceAll v [32] []) (Lib.replaceAll a [32] [])) ∧ Below w.heap.size w w' :=
  equalW_any m 5 _ _ _ synNu nuAt nuWalked (S v) _ (S a) _ _ _ (fun W h => nuN_any m v hv W h) (fun W h => nuN_any m a ha W h) w hM
/-- What MatchFolds' calls answer, of a text, the one with its letters swapped, and figures. -/
theorem folds_pack (m : Int) (l f : List UInt8) (hl : l.length ≤ 140737488355328) (hf : dig f) (hfl : f.length ≤ 200) :
    (∀ W, Hid (Calls Tryz.prog 4 #[.int .i64 1, .string (S [97, 66]), .string (S [65, 98])] W fun e w' => e = .returned (.int .i64 2) ∧ Below W.heap.size W w')) ∧
    (∀ W, Hid (Calls Tryz.prog 4 #[.int .i64 2, .string (S [97, 66]), .string (S [65, 98])] W fun e w' => e = .returned (.int .i64 0) ∧ Below W.heap.size W w')) ∧
    (∀ W, Hid (Calls Tryz.prog 4 #[.int .i64 1, .string (S l), .string (S (l.map swp))] W fun e w' => e = .returned (.int .i64 (if exOk l then 2 else 1)) ∧ Below W.heap.size W w')) ∧
    (∀ W, Hid (Calls Tryz.prog 4 #[.int .i64 2, .string (S l), .string (S (l.map swp))] W fun e w' => e = .returned (.int .i64 (if exOk l then (if decide (l = l.map swp) then 2 else 0) else 1)) ∧ Below W.heap.size W w')) ∧
    (exOk l = true → ∀ W, Hid (Calls Tryz.prog 4 #[.int .i64 2, .string (S l), .string (S ([32, 9] ++ (l ++ [32, 32])))] W fun e w' => e = .returned (.int .i64 2) ∧ Below W.heap.size W w')) ∧
    (exOk l = true → ∀ W, Hid (Calls Tryz.prog 4 #[.int .i64 1, .string (S ([10] ++ (l.map swp ++ [32]))), .string (S l)] W fun e w' => e = .returned (.int .i64 2) ∧ Below W.heap.size W w')) ∧
    (∀ W, Hid (Calls Tryz.prog 4 #[.int .i64 3, .string (S l), .string (S (l.map swp))] W fun e w' => e = .returned (.int .i64 (if asc (fold l) then 2 else 1)) ∧ Below W.heap.size W w')) ∧
    (∀ W, MaxL m W → Hid (Calls Tryz.prog 4 #[.int .i64 6, .string (S ([43, 49, 32] ++ f)), .string (S ([43, 49, 45] ++ (f ++ [32])))] W fun e w' => e = .returned (.int .i64 2) ∧ Below W.heap.size W w')) ∧
    (∀ W, MaxL m W → Hid (Calls Tryz.prog 4 #[.int .i64 5, .string (S ([55] ++ f)), .string (S ([55, 32] ++ f))] W fun e w' => e = .returned (.int .i64 2) ∧ Below W.heap.size W w')) := by
  have hls : (l.map swp).length ≤ 140737488355328 := by rw [List.length_map]; exact hl
  refine ⟨fun W => ?_, fun W => ?_, fun W => ?_, fun W => ?_, fun h W => ?_, fun h W => ?_, fun W => ?_, fun W hM => ?_, fun W hM => ?_⟩
  · have := textEq_any [97, 66] [65, 98] (by decide) (by decide) W
    rw [show exOk [65, 98] = true by decide +kernel, show exOk [97, 66] = true by decide +kernel, show fold [97, 66] = fold [65, 98] by decide +kernel, eqT_yes] at this
    exact this
  · have := exactEq_any [97, 66] [65, 98] (by decide) (by decide) W
    rw [show exOk [65, 98] = true by decide +kernel, show exOk [97, 66] = true by decide +kernel, eqT_of, show decide (squeeze [97, 66] = squeeze [65, 98]) = false by decide +kernel] at this
    exact this
  · have := textEq_any l (l.map swp) (by omega) (by omega) W
    rw [MtFldM.exOk_swp, MtFldM.fold_swp] at this
    generalize exOk l = b at this ⊢
    cases b
    · exact this
    · rw [eqT_yes] at this
      exact this
  · have := exactEq_any l (l.map swp) (by omega) (by omega) W
    rw [MtFldM.exOk_swp] at this
    generalize exOk l = b at this ⊢
    cases b
    · exact this
    · rw [eqT_of] at this
      simp only [MtFldM.squeeze_swp] at this
      exact this
  · have := exactEq_any l ([32, 9] ++ (l ++ [32, 32])) (by omega) (by simp; omega) W
    rw [h, ex_pad [32, 9] l [32, 32] (by decide +kernel) (by decide +kernel) h, sq_pad2, eqT_yes] at this
    exact this
  · have := textEq_any ([10] ++ (l.map swp ++ [32])) l (by simp; omega) (by omega) W
    rw [h, ex_pad [10] (l.map swp) [32] (by decide +kernel) (by decide +kernel) (by rw [MtFldM.exOk_swp]; exact h), fold_pad1, sq_pad1, MtFldM.fold_swp, eqT_yes] at this
    exact this
  · have := ia5Eq_any l (l.map swp) (by omega) (by omega) W
    rw [MtFldM.fold_swp] at this
    generalize asc (fold l) = b at this ⊢
    cases b
    · exact this
    · rw [eqT_yes] at this
      exact this
  · have := phoneEq_any m ([43, 49, 32] ++ f) ([43, 49, 45] ++ (f ++ [32])) (by simp; omega) (by simp; omega) W hM
    obtain ⟨p1, p2, p3⟩ := dig_ph f hf
    rw [show phOk ([43, 49, 32] ++ f) = true by unfold phOk; rw [p1]; rfl, show phOk ([43, 49, 45] ++ (f ++ [32])) = true by unfold phOk; rw [p2]; rfl, p3, eqT_yes] at this
    exact this
  · have := numEq_any m ([55] ++ f) ([55, 32] ++ f) (by simp; omega) (by simp; omega) W hM
    obtain ⟨p1, p2, p3⟩ := dig_nu f hf
    rw [show nuOk ([55] ++ f) = true by unfold nuOk; rw [p1]; rfl, show nuOk ([55, 32] ++ f) = true by unfold nuOk; rw [p2]; rfl, p3, eqT_yes] at this
    exact this
end Go.Proofs.YtlebpbhaoooaaaaGreat
