import Derived.Test.YtfpphhbpoaobfaaGreatDoorRcW
namespace Go.Proofs.YtfpphhbpoaobfaaGreatDoor
open Go.RowKit
theorem ldifComment_w (s : ByteArray) (d : Int) (co : ByteArray) (w : World) (hs : s.size ≤ 1048576) (_hd : (Lit.int .i64 d).wf = true) (hco : co.size ≤ 1048576) (hWt : WTab w) (hCt : Lr.ChgTab w) :
    Calls Tryz.prog 4 #[.string s, .int .i64 d, .string co] w fun e w' => e = .returned (.bool true) ∧ Below w.heap.size w w' := Rd.ldifComment_walk s d co hs hco w hWt hCt
end Go.Proofs.YtfpphhbpoaobfaaGreatDoor
