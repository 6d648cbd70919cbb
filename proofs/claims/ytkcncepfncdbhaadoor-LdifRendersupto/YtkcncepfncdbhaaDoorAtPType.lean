import Derived.Test.YtkcncepfncdbhaaDoorAtCanon
import Derived.Test.YtkcncepfncdbhaaDoorAtRead2
namespace Go.Proofs.YtkcncepfncdbhaaDoor
open Go.RowKit
open TextMath (fold lo)

/-- What ParseType answers of a folded text: the canonical type, the error, the place. -/
def parsT (f : ByteArray) : ByteArray × Int × Nat := if (typE f.data.toList).2 = true ∧ ¬ (typE f.data.toList).1 < f.size then (canN f, 0, (typE f.data.toList).1) else (⟨#[]⟩, 40, (typE f.data.toList).1)
end Go.Proofs.YtkcncepfncdbhaaDoor
