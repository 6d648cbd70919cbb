import Derived.Test.YtjokpcggdaoleaaGreatDoorMtEqO
import Derived.Test.YtjokpcggdaoleaaGreatDoorAtShelf
import Derived.Test.YtjokpcggdaoleaaGreatDoorBytes
namespace Go.Proofs.YtjokpcggdaoleaaGreatDoor
open Go.RowKit
set_option linter.unusedVariables false

/-- The syntax of bits, as an interface value's own. -/
abbrev bitsX : Value := .agg #[]
theorem synBits (w : World) : Calls Tryz.prog 13 #[.int .i64 14] w fun e w' => e = .returned (.iface 77 bitsX) ∧ w' = w := by
  go_enter Tryz.func13, Tryz.ntmps13
  go_wp2_with fail
  go_ret
  exact ⟨rfl, rfl⟩
set_option maxRecDepth 100000 in
theorem bitsAt : SynAt 77 bitsX 298 := fun n W => by kernel_rfl
set_option maxRecDepth 100000 in
theorem bitsWalked : WalkedAt 298 := fun args W => by kernel_rfl
end Go.Proofs.YtjokpcggdaoleaaGreatDoor
