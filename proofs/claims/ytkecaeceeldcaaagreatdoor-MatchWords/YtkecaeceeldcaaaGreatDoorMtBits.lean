import Derived.Test.YtkecaeceeldcaaaGreatDoorMtEqO
import Derived.Test.YtkecaeceeldcaaaGreatDoorAtShelf
import Derived.Test.YtkecaeceeldcaaaGreatDoorBytes
namespace Go.Proofs.YtkecaeceeldcaaaGreatDoor
open Go.RowKit
set_option linter.unusedVariables false

/-- The syntax of bits, as an interface value's own. -/
abbrev bitsX : Value := .agg #[]
theorem synBits (w : World) : Calls Tryz.prog 21 #[.int .i64 14] w fun e w' => e = .returned (.iface 89 bitsX) ∧ w' = w := by
  go_enter Tryz.func21, Tryz.ntmps21
  go_wp2_with fail
  go_ret
  exact ⟨rfl, rfl⟩
set_option maxRecDepth 100000 in
theorem bitsAt : SynAt 89 bitsX 304 := fun n W => by kernel_rfl
set_option maxRecDepth 100000 in
theorem bitsWalked : WalkedAt 304 := fun args W => by kernel_rfl
end Go.Proofs.YtkecaeceeldcaaaGreatDoor
