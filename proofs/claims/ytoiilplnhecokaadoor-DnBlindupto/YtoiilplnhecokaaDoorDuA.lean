import Derived.Test.YtoiilplnhecokaaDoorDuOwn
namespace Go.Proofs.YtoiilplnhecokaaDoor
namespace Du
open Go.RowKit
set_option linter.unusedVariables false
set_option maxRecDepth 100000

theorem ne_ava (c s : ByteArray) (W : World) :
    (binOp .neq 40 (.agg #[.string c, .string s]) (.agg #[.string c, .string s])).run Tryd.prog W = .ok (.bool false) W := by
  have hS : Tryd.prog.underlying 40 = some (.struct (Tryd.prog.fieldsOf 40)) := by kernel_rfl
  have hp : Tryd.prog.stoodInHeld 40 = false := by kernel_rfl
  rw [run_neq_struct, run_equalIn_struct _ _ _ _ _ hS hp]
  simp only [Program.fieldsOf, Tryd.underlying40]
  simp [Op.eqFields, go_sem]

end Du
end Go.Proofs.YtoiilplnhecokaaDoor
