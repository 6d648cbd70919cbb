import Derived.Test.YtkiidlnimjjnlaaDoorBHeadLaw
import Derived.Test.YtkiidlnimjjnlaaDoorBhHdM
import Derived.BigQuiet
namespace Go.Proofs.YtkiidlnimjjnlaaDoor
open Go.RowKit
set_option linter.unusedVariables false

/-- What sound answers, and what it means if it is true. -/
def SndR (e : Ending) (n : Nat) (D C T : Nat → Int) (M : Nat → Bool) (B : Nat → ByteArray) : Prop := Ans e (0 < n ∧ ∀ i, i < n → Good D C T M B i)
end Go.Proofs.YtkiidlnimjjnlaaDoor
