import Derived.Test.YtoiilplnhecokaaDoorDnSame
import Derived.Lib.AppendZeros
namespace Go.Proofs.YtoiilplnhecokaaDoor
open Go.RowKit
open DnMath (Tot lx tb tt ck tb_tot tt_tot ck_tot less_tt lx_front lx_between)
set_option linter.unusedVariables false

/-- The mark behind a copy. -/
def spr : List UInt8 := [115, 112, 97, 114, 101, 32, 114, 111, 111, 109]
/-- A list that has just been laid, without a text in it. -/
theorem own_empty (w : World) : OwnS (w.alloc (.cells #[] 9)) w.heap.size (.slice (some ⟨w.heap.size, 0, none⟩) 0 0) [] :=
  ⟨rfl, Or.inr ⟨w.heap.size, 0, #[], rfl, Nat.le_refl _, heap_alloc_new w _, Nat.le_refl _, by unfold maxLen; omega, rfl, rfl⟩⟩

end Go.Proofs.YtoiilplnhecokaaDoor
