import Derived.Test.YtkanoloddpigdaaDoorDuOwn
namespace Go.Proofs.YtkanoloddpigdaaDoor
namespace Du
open Go.RowKit
set_option linter.unusedVariables false
set_option maxRecDepth 100000

theorem ne_ava (c s : ByteArray) (W : World) :
    (binOp .neq 43 (.agg #[.string c, .string s]) (.agg #[.string c, .string s])).run Tryd.prog W = .ok (.bool false) W := by
  have hS : Tryd.prog.underlying 43 = some (.struct (Tryd.prog.fieldsOf 43)) := by kernel_rfl
  have hp : Tryd.prog.stoodInHeld 43 = false := by kernel_rfl
  rw [run_neq_struct, run_equalIn_struct _ _ _ _ _ hS hp]
  simp only [Program.fieldsOf, Tryd.underlying43]
  simp [Op.eqFields, go_sem]

end Du
end Go.Proofs.YtkanoloddpigdaaDoor
