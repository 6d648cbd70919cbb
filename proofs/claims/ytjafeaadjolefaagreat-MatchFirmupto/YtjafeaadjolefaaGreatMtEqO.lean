import Derived.Test.YtjafeaadjolefaaGreatMtEq
namespace Go.Proofs.YtjafeaadjolefaaGreat
open Go.RowKit
set_option linter.unusedVariables false

set_option maxRecDepth 100000 in
theorem octAt : SynAt 50 (.agg #[]) 97 := fun n W => by kernel_rfl
set_option maxRecDepth 100000 in
theorem octWalked : WalkedAt 97 := fun args W => by kernel_rfl
theorem octNorm (v : ByteArray) : NormIs (.agg #[]) 97 v v true := fun W => octN_any v W
end Go.Proofs.YtjafeaadjolefaaGreat
