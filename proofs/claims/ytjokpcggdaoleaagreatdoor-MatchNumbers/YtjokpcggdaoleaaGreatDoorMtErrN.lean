import Derived.Test.YtjokpcggdaoleaaGreatDoorMtErrL
import Derived.Test.YtjokpcggdaoleaaGreatDoorMtNumL
namespace Go.Proofs.YtjokpcggdaoleaaGreatDoor
open Go.RowKit Go.ChangeShapes
set_option linter.unusedVariables false

theorem wf64 {n : Int} (h : (Lit.int .i64 n).wf = true) : -9223372036854775808 ≤ n ∧ n ≤ 9223372036854775807 := by
  simp [Lit.wf, IntKind.min, IntKind.max, IntKind.signed, IntKind.bits] at h
  omega
theorem pow_tab : (Rows.laid_internal_strconv_uint64pow10 : DataW Unit) = Lib.tabData .u64 Lib.pow10Tab := by kernel_rfl
theorem laid_numbers {W : World} (hL : laidMetH Tryz.prog Rows.matchNumbersRow.laid W) : TabW W ∧ ∃ ev, IsI ev ∧ ErrV ev W := by
  have h : laidMet Tryz.prog Rows.matchNumbersRow.laid W := by
    have e := Go.MakeChecks.laidMetH_plain Tryz.prog Rows.matchNumbersRow.laid W (by kernel_rfl)
    rw [← e]
    exact hL
  refine ⟨?_, errV_head h.tail.tail.tail.tail⟩
  have h3 := h.tail.tail
  have h4 : ∃ rest, laidMet Tryz.prog (("internal/strconv.uint64pow10", Rows.laid_internal_strconv_uint64pow10) :: rest) W := ⟨_, h3⟩
  obtain ⟨rest, h5⟩ := h4
  rw [pow_tab] at h5
  exact Lib.tabIs_of_head (g := 0) (t := 107) (e := 85) (n := 20) (by kernel_rfl) (by kernel_rfl) (by kernel_rfl) (by kernel_rfl) (by kernel_rfl) (by kernel_rfl) h5
end Go.Proofs.YtjokpcggdaoleaaGreatDoor
