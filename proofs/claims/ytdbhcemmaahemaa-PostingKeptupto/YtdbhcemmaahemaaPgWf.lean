import Derived.Test.YtdbhcemmaahemaaPgCnt
namespace Go.Proofs.Ytdbhcemmaahemaa
open Go.RowKit
theorem wf64 {v : Int} (h : (Lit.int .i64 v).wf = true) : -9223372036854775808 ≤ v ∧ v ≤ 9223372036854775807 := by
  have h' : (decide (IntKind.i64.min ≤ v) && decide (v ≤ IntKind.i64.max)) = true := h
  rw [Bool.and_eq_true] at h'
  have h1 := of_decide_eq_true h'.1
  have h2 := of_decide_eq_true h'.2
  have e1 : IntKind.i64.min = -9223372036854775808 := by decide
  have e2 : IntKind.i64.max = 9223372036854775807 := by decide
  omega
end Go.Proofs.Ytdbhcemmaahemaa
