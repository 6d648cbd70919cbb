import Derived.Test.YtnjodplnbfmjeaaGreatDoorRgN
namespace Go.Proofs.YtnjodplnbfmjeaaGreatDoor
namespace Du
open Go.RowKit
theorem regionP {P : Program} {ops : Array Oper} {Q : Exit → Act → World → Prop} (N : Nat → Bool) (S : World → Prop) {id : Nat} {a : Act} {w : World} (hm : P.follows .mixedOrders = true)
    (h : RgN.wpAnyN P .any ops (RgN.Only Q) N S ops.size (Array.replicate ops.size false) a w.drew) : (Code.region id ops true).wp P Q a w :=
  Code.wp_mono RgN.only_post (wp_region_any hm (RgN.any_of_n _ _ _ _ h))
end Du
end Go.Proofs.YtnjodplnbfmjeaaGreatDoor
