import Derived.Test.YtndciaidalnljaaBJoin1
namespace Go.Proofs.Ytndciaidalnljaa
open Go.RowKit
open BerMath (lo)

end Go.Proofs.Ytndciaidalnljaa
