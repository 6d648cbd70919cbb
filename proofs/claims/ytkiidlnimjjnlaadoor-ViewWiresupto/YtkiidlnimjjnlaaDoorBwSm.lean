import Derived.Test.YtkiidlnimjjnlaaDoorBwF
import Derived.Laws.StructEq
import Derived.BigQuiet
namespace Go.Proofs.YtkiidlnimjjnlaaDoor
open Go.RowKit
set_option linter.unusedVariables false

theorem wr_up' (k : Nat) (h : k ≤ 140737488355328) : wrap64 ((k : Int) + 1) = (k : Int) + 1 := by unfold wrap64; omega
theorem ne_node (d c : Int) (m : Bool) (t : Int) (s : ByteArray) (W : World) :
    (binOp .neq 38 (.agg #[.int .i64 d, .int .i64 c, .bool m, .int .i64 t, .string s]) (.agg #[.int .i64 d, .int .i64 c, .bool m, .int .i64 t, .string s])).run Tryd.prog W = .ok (.bool false) W := by
  have hS : Tryd.prog.underlying 38 = some (.struct (Tryd.prog.fieldsOf 38)) := by kernel_rfl
  have hp : Tryd.prog.stoodInHeld 38 = false := by kernel_rfl
  rw [run_neq_struct, run_equalIn_struct _ _ _ _ _ hS hp]
  simp only [Program.fieldsOf, Tryd.underlying38]
  simp [Op.eqFields, go_sem]
theorem isN_row {w : World} {a : Option Addr} {n : Nat} {D C T : Nat → Int} {M : Nat → Bool} {B : Nat → ByteArray} (h : IsNodes w a n D C T M B) : NdRow w a (nodesL n D C T M B) := fun i hi => by
  have hi' : i < n := by simpa [nodesL] using hi
  obtain ⟨b, off, e, h0, h1, h2, h3, h4⟩ := h i hi'
  have hx : (nodesL n D C T M B)[i] = ⟨D i, C i, M i, T i, B i⟩ := by simp [nodesL]
  rw [hx]
  exact ⟨b, off, e, h0, h1, h2, h3, h4⟩
theorem nodesL_len (n : Nat) (D C T : Nat → Int) (M : Nat → Bool) (B : Nat → ByteArray) : (nodesL n D C T M B).length = n := by simp [nodesL]
theorem ownN_any {w : World} {B : Nat} {v : Value} {l : List Nd} (h : OwnN w B v l) : ∃ a c, v = .slice a l.length c ∧ NdRow w a l := by
  rcases ownN_form h with ⟨e, rfl⟩ | ⟨g, cap, rfl⟩
  · exact ⟨_, _, e, fun i hi => by simp at hi⟩
  · exact ⟨_, _, rfl, (ownN_row h).1⟩
end Go.Proofs.YtkiidlnimjjnlaaDoor
