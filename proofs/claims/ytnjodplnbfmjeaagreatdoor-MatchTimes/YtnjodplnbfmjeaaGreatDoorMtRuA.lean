import Derived.Test.YtnjodplnbfmjeaaGreatDoorMtEqO
import Derived.Great.BuildSlice
import Derived.Laws.ResultCell
import Derived.Deep.RegionHeld3
import Derived.Deep.DeepCutAuto
namespace Go.Proofs.YtnjodplnbfmjeaaGreatDoor
open Go.RowKit
set_option linter.unusedVariables false

namespace Ru
/-- A row of the table of rules. -/
def RulAt (cs : Array Value) (r : Nat) (n o : ByteArray) (own : Int) (fa : FuncId) : Prop := cs[r * 4]? = some (.string n) ∧ cs[r * 4 + 1]? = some (.string o) ∧ cs[r * 4 + 2]? = some (.int .i64 own) ∧ cs[r * 4 + 3]? = some (.func (.func fa) #[] #[])
/-- The table of rules: of each its number, its syntax, what asks. -/
def rulT : List (Nat × Int × FuncId) := [(1, 1, 14), (2, 2, 14), (3, 3, 14), (4, 4, 14), (5, 5, 14), (6, 6, 14), (7, 7, 14), (8, 8, 14), (9, 9, 14), (10, 10, 14), (11, 11, 14), (12, 12, 14), (13, 1, 28), (14, 2, 28), (15, 5, 28), (16, 7, 28), (17, 9, 28), (18, 12, 28), (19, 7, 29), (20, 7, 30), (21, 10, 31), (22, 13, 14), (23, 14, 14), (24, 1, 32), (25, 2, 32), (26, 3, 32), (27, 5, 32), (28, 6, 32), (29, 9, 32), (30, 1, 33)]
def RulC (cs : Array Value) : Prop := cs.size = 124 ∧ ∀ x ∈ rulT, ∃ n o, RulAt cs x.1 n o x.2.1 x.2.2
set_option maxRecDepth 100000 in
set_option maxHeartbeats 4000000 in
theorem rules_any (w : World) : Calls Tryz.prog 25 #[] w fun e w' => ∃ cs, e = .returned (.slice (some ⟨w.heap.size, 0, none⟩) 31 31) ∧ w' = w.alloc (.cells cs 46) ∧ RulC cs := by
  go_enter Tryz.func25, Tryz.ntmps25
  go_wp2_with fail
  go_ret
  refine ⟨_, rfl, rfl, ?_⟩
  refine ⟨rfl, fun x hx => ?_⟩
  simp only [rulT, List.mem_cons, List.not_mem_nil, or_false] at hx
  rcases hx with rfl | rfl | rfl | rfl | rfl | rfl | rfl | rfl | rfl | rfl | rfl | rfl | rfl | rfl | rfl | rfl | rfl | rfl | rfl | rfl | rfl | rfl | rfl | rfl | rfl | rfl | rfl | rfl | rfl | rfl <;> exact ⟨_, _, rfl, rfl, rfl, rfl⟩
end Ru
end Go.Proofs.YtnjodplnbfmjeaaGreatDoor
