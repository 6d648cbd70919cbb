import Derived.Test.YtjafeaadjolefaaGreatMtEqO
import Derived.Test.YtjafeaadjolefaaGreatAtShelf
import Derived.Test.YtjafeaadjolefaaGreatBytes
namespace Go.Proofs.YtjafeaadjolefaaGreat
open Go.RowKit
set_option linter.unusedVariables false

/-- The syntax of bits, as an interface value's own. -/
abbrev bitsX : Value := .agg #[]
theorem synBits (w : World) : Calls Tryz.prog 5 #[.int .i64 14] w fun e w' => e = .returned (.iface 56 bitsX) ∧ w' = w := by
  go_enter Tryz.func5, Tryz.ntmps5
  go_wp2_with fail
  go_ret
  exact ⟨rfl, rfl⟩
set_option maxRecDepth 100000 in
theorem bitsAt : SynAt 56 bitsX 248 := fun n W => by kernel_rfl
set_option maxRecDepth 100000 in
theorem bitsWalked : WalkedAt 248 := fun args W => by kernel_rfl
end Go.Proofs.YtjafeaadjolefaaGreat
