import Derived.Test.YtjokpcggdaoleaaGreatDoorMtEqO
import Derived.Great.BuildSlice
import Derived.Laws.ResultCell
import Derived.Deep.RegionHeld3
import Derived.Deep.DeepCutAuto
namespace Go.Proofs.YtjokpcggdaoleaaGreatDoor
open Go.RowKit
set_option linter.unusedVariables false

/-- A row of the table of rules. -/
def RulAt (cs : Array Value) (r : Nat) (n o : ByteArray) (own : Int) (fa : FuncId) : Prop := cs[r * 4]? = some (.string n) ∧ cs[r * 4 + 1]? = some (.string o) ∧ cs[r * 4 + 2]? = some (.int .i64 own) ∧ cs[r * 4 + 3]? = some (.func (.func fa) #[] #[])
/-- The table's rows that are asked for. -/
def RulC (cs : Array Value) : Prop := cs.size = 124 ∧ (∃ n o, RulAt cs 7 n o 7 12) ∧ (∃ n o, RulAt cs 16 n o 7 28) ∧ (∃ n o, RulAt cs 19 n o 7 29) ∧ (∃ n o, RulAt cs 20 n o 7 30) ∧ (∃ n o, RulAt cs 23 n o 14 12)
set_option maxRecDepth 100000 in
set_option maxHeartbeats 4000000 in
theorem rules_any (w : World) : Calls Tryz.prog 23 #[] w fun e w' => ∃ cs, e = .returned (.slice (some ⟨w.heap.size, 0, none⟩) 31 31) ∧ w' = w.alloc (.cells cs 42) ∧ RulC cs := by
  go_enter Tryz.func23, Tryz.ntmps23
  go_wp2_with fail
  go_ret
  refine ⟨_, rfl, rfl, ?_⟩
  exact ⟨rfl, ⟨_, _, rfl, rfl, rfl, rfl⟩, ⟨_, _, rfl, rfl, rfl, rfl⟩, ⟨_, _, rfl, rfl, rfl, rfl⟩, ⟨_, _, rfl, rfl, rfl, rfl⟩, ⟨_, _, rfl, rfl, rfl, rfl⟩⟩
end Go.Proofs.YtjokpcggdaoleaaGreatDoor
