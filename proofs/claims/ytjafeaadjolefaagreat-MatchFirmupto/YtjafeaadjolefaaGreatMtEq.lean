import Derived.Test.YtjafeaadjolefaaGreatMtOct
namespace Go.Proofs.YtjafeaadjolefaaGreat
open Go.RowKit
set_option linter.unusedVariables false

/-- A syntax as an interface value, and where its normal lies. -/
def SynAt (T : TypeId) (x : Value) (fn : FuncId) : Prop := ∀ (n : Nat) (W : World), Sem.run Tryz.prog (method (n + 1) T x "roster/match.normal") W = .ok (fn, x) W
/-- It is a function that is walked. -/
def WalkedAt (fn : FuncId) : Prop := ∀ (args : Array Value) (W : World), Sem.run Tryz.prog (callFunc fn args) W = .ok (.enter fn args) W
/-- Its normal takes a text: what it answers, wherever it is called. -/
def NormIs (x : Value) (fn : FuncId) (a na : ByteArray) (b : Bool) : Prop := ∀ W : World, Calls Tryz.prog fn #[x, .string a] W fun e w' => e = .returned (.tuple #[.string na, .bool b]) ∧ Below W.heap.size W w'
/-- A truth by its number. -/
def tvE (ok b : Bool) : Value := if ok then (if b then .int .i64 2 else .int .i64 0) else .int .i64 1
end Go.Proofs.YtjafeaadjolefaaGreat
