import Derived.Test.YtfpphhbpoaobfaaGreatDoorRnX
import Derived.Test.YtfpphhbpoaobfaaGreatDoorLrO
namespace Go.Proofs.YtfpphhbpoaobfaaGreatDoor
open Go.RowKit
theorem ldifRenderLoad_w (a : Option Addr) (c : Nat) (L : List Lr.RX) (n : Nat) (hn : L.length = n) (d : Int) (w : World) (hr : Lr.RRow w a L) (hz : Lr.wt (L.map Lr.said) ≤ 1048576) (hd : (Lit.int .i64 d).wf = true) (hAt : AlTab w) (hWt : WTab w) (hCt : Lr.ChgTab w) :
    Calls Tryz.prog 6 #[.slice a n c, .int .i64 d] w fun e w' => e = .returned (.bool true) ∧ Below w.heap.size w w' := by
  have hd1 : d ≤ 9223372036854775807 := by
    simp [Lit.wf, IntKind.min, IntKind.max, IntKind.signed, IntKind.bits] at hd
    omega
  exact Rd.ldifRenderLoad_walk a c L n hn d hd1 w hr hz hAt hWt hCt
end Go.Proofs.YtfpphhbpoaobfaaGreatDoor
