import Derived.Test.YtofghgggllfafaaDoorFlFl1
import Derived.Test.YtofghgggllfafaaDoorFlFl2
import Derived.Test.YtofghgggllfafaaDoorFlFl3
import Derived.Test.YtofghgggllfafaaDoorFlFl4
import Derived.Test.YtofghgggllfafaaDoorFlFl5
namespace Go.Proofs.YtofghgggllfafaaDoor
open Go.RowKit
open TextMath
set_option linter.unusedVariables false
set_option linter.unusedSimpArgs false


/-- Has a node what its Op asks for? (The reference's.) -/
theorem fields_any (d o : Int) (s v i : ByteArray) (a : Option Addr) (l : List (List UInt8)) (n : Nat) (f r : ByteArray) (b : Bool) (w : World) (hl : l.length ≤ 1048576) (hs : s.size ≤ 140737488355328) (hr : r.size ≤ 140737488355328) (h1 : Row w a l) (hT : RowTab w) :
    Calls Tryd.prog 22 #[.agg #[.int .i64 d, .int .i64 o, .string s, .string v, .string i, .slice a l.length n, .string f, .string r, .bool b]] w fun e w' => e = .returned (.bool (sou o s v i f r l b)) ∧ Below w.heap.size w w' := by
  by_cases ho : o < 0 ∨ 9 < o
  · exact fdX d o s v i a l n f r b w ho
  · have hc : o = 0 ∨ o = 1 ∨ o = 2 ∨ o = 3 ∨ o = 4 ∨ o = 5 ∨ o = 6 ∨ o = 7 ∨ o = 8 ∨ o = 9 := by omega
    rcases hc with rfl | rfl | rfl | rfl | rfl | rfl | rfl | rfl | rfl | rfl
    · exact fd0 d s v i a l n f r b w hl hs hr h1 hT
    · exact fd1 d s v i a l n f r b w hl hs hr h1 hT
    · exact fd2 d s v i a l n f r b w hl hs hr h1 hT
    · exact fd3 d s v i a l n f r b w hl hs hr h1 hT
    · exact fd4 d s v i a l n f r b w hl hs hr h1 hT
    · exact fd5 d s v i a l n f r b w hl hs hr h1 hT
    · exact fd6 d s v i a l n f r b w hl hs hr h1 hT
    · exact fd7 d s v i a l n f r b w hl hs hr h1 hT
    · exact fd8 d s v i a l n f r b w hl hs hr h1 hT
    · exact fd9 d s v i a l n f r b w hl hs hr h1 hT
end Go.Proofs.YtofghgggllfafaaDoor
