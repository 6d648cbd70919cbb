import Derived.Test.YtcmdmkajpbhcaaaDoorAtCovD
namespace Go.Proofs.YtcmdmkajpbhcaaaDoor
open Go.RowKit
open TextMath (fold lo)
set_option linter.unusedVariables false

/-- The syntax of a description. -/
def synD (f : ByteArray) : Int := if (desc f).2.2 = true then synN (typD f) else 0
end Go.Proofs.YtcmdmkajpbhcaaaDoor
