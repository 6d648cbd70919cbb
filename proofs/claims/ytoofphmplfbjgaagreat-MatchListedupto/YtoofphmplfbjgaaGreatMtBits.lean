import Derived.Test.YtoofphmplfbjgaaGreatMtEqO
import Derived.Test.YtoofphmplfbjgaaGreatAtShelf
import Derived.Test.YtoofphmplfbjgaaGreatBytes
namespace Go.Proofs.YtoofphmplfbjgaaGreat
open Go.RowKit
set_option linter.unusedVariables false

/-- The syntax of bits, as an interface value's own. -/
abbrev bitsX : Value := .agg #[]
theorem synBits (w : World) : Calls Tryz.prog 17 #[.int .i64 14] w fun e w' => e = .returned (.iface 77 bitsX) ∧ w' = w := by
  go_enter Tryz.func17, Tryz.ntmps17
  go_wp2_with fail
  go_ret
  exact ⟨rfl, rfl⟩
set_option maxRecDepth 100000 in
theorem bitsAt : SynAt 77 bitsX 273 := fun n W => by kernel_rfl
set_option maxRecDepth 100000 in
theorem bitsWalked : WalkedAt 273 := fun args W => by kernel_rfl
end Go.Proofs.YtoofphmplfbjgaaGreat
