import Derived.Test.YtkecaeceeldcaaaGreatDoorMtEqO
import Derived.Great.BuildSlice
import Derived.Laws.ResultCell
import Derived.Deep.RegionHeld3
import Derived.Deep.DeepCutAuto
namespace Go.Proofs.YtkecaeceeldcaaaGreatDoor
open Go.RowKit
set_option linter.unusedVariables false

namespace Ru
/-- A row of the table of rules. -/
def RulAt (cs : Array Value) (r : Nat) (n o : ByteArray) (own : Int) (fa : FuncId) : Prop := cs[r * 4]? = some (.string n) ∧ cs[r * 4 + 1]? = some (.string o) ∧ cs[r * 4 + 2]? = some (.int .i64 own) ∧ cs[r * 4 + 3]? = some (.func (.func fa) #[] #[])
/-- The table of rules: of each its number, its syntax, what asks. -/
def rulT : List (Nat × Int × FuncId) := [(1, 1, 25), (2, 2, 25), (3, 3, 25), (4, 4, 25), (5, 5, 25), (6, 6, 25), (7, 7, 25), (8, 8, 25), (9, 9, 25), (10, 10, 25), (11, 11, 25), (12, 12, 25), (13, 1, 31), (14, 2, 31), (15, 5, 31), (16, 7, 31), (17, 9, 31), (18, 12, 31), (19, 7, 32), (20, 7, 33), (21, 10, 34), (22, 13, 25), (23, 14, 25), (24, 1, 35), (25, 2, 35), (26, 3, 35), (27, 5, 35), (28, 6, 35), (29, 9, 35), (30, 1, 36)]
def RulC (cs : Array Value) : Prop := cs.size = 124 ∧ ∀ x ∈ rulT, ∃ n o, RulAt cs x.1 n o x.2.1 x.2.2
set_option maxRecDepth 100000 in
set_option maxHeartbeats 4000000 in
theorem rules_any (w : World) : Calls Tryz.prog 24 #[] w fun e w' => ∃ cs, e = .returned (.slice (some ⟨w.heap.size, 0, none⟩) 31 31) ∧ w' = w.alloc (.cells cs 47) ∧ RulC cs := by
  go_enter Tryz.func24, Tryz.ntmps24
  go_wp2_with fail
  go_ret
  refine ⟨_, rfl, rfl, ?_⟩
  refine ⟨rfl, fun x hx => ?_⟩
  simp only [rulT, List.mem_cons, List.not_mem_nil, or_false] at hx
  rcases hx with rfl | rfl | rfl | rfl | rfl | rfl | rfl | rfl | rfl | rfl | rfl | rfl | rfl | rfl | rfl | rfl | rfl | rfl | rfl | rfl | rfl | rfl | rfl | rfl | rfl | rfl | rfl | rfl | rfl | rfl <;> exact ⟨_, _, rfl, rfl, rfl, rfl⟩
end Ru
end Go.Proofs.YtkecaeceeldcaaaGreatDoor
