import Derived.Test.YtjafeaadjolefaaGreatMtEqO
namespace Go.Proofs.YtjafeaadjolefaaGreat
open Go.RowKit
set_option linter.unusedVariables false

/-- What the library's MaxLen holds. -/
def MaxL (m : Int) (W : World) : Prop := W.cell? ⟨0, 0, none⟩ = some (.int .i64 m)
theorem MaxL.below {m : Int} {W W' : World} (h : MaxL m W) (hb : Below W.heap.size W W') : MaxL m W' := (hb.cell (World.block_lt_of_cell? W _ h)).trans h
theorem MaxL.drew {m : Int} {W : World} (h : MaxL m W) : MaxL m W.drew := h
/-- A syntax's normal takes a text: what it answers where it is called. -/
def NormAt (x : Value) (fn : FuncId) (a na : ByteArray) (b : Bool) (W : World) : Prop := Calls Tryz.prog fn #[x, .string a] W fun e w' => e = .returned (.tuple #[.string na, .bool b]) ∧ Below W.heap.size W w'
end Go.Proofs.YtjafeaadjolefaaGreat
