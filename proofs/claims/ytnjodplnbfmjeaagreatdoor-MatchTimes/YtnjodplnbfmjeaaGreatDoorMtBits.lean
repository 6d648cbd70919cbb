import Derived.Test.YtnjodplnbfmjeaaGreatDoorMtEqO
import Derived.Test.YtnjodplnbfmjeaaGreatDoorAtShelf
import Derived.Test.YtnjodplnbfmjeaaGreatDoorBytes
namespace Go.Proofs.YtnjodplnbfmjeaaGreatDoor
open Go.RowKit
set_option linter.unusedVariables false

/-- The syntax of bits, as an interface value's own. -/
abbrev bitsX : Value := .agg #[]
theorem synBits (w : World) : Calls Tryz.prog 15 #[.int .i64 14] w fun e w' => e = .returned (.iface 80 bitsX) ∧ w' = w := by
  go_enter Tryz.func15, Tryz.ntmps15
  go_wp2_with fail
  go_ret
  exact ⟨rfl, rfl⟩
set_option maxRecDepth 100000 in
theorem bitsAt : SynAt 80 bitsX 301 := fun n W => by kernel_rfl
set_option maxRecDepth 100000 in
theorem bitsWalked : WalkedAt 301 := fun args W => by kernel_rfl
end Go.Proofs.YtnjodplnbfmjeaaGreatDoor
