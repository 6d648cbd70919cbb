import Derived.Test.YtndbbfbihheagaaDoorRows
import Derived.Test.YtndbbfbihheagaaDoorBytes
import Derived.Test.YtndbbfbihheagaaDoorFoldMath
namespace Go.Proofs.YtndbbfbihheagaaDoor
open Go.RowKit
open TextMath (fold lo)

end Go.Proofs.YtndbbfbihheagaaDoor
