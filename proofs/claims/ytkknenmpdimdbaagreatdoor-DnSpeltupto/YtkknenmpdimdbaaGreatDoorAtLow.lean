import Derived.Test.YtkknenmpdimdbaaGreatDoorAtTab
import Derived.Deep.WholeRow
namespace Go.Proofs.YtkknenmpdimdbaaGreatDoor
open Go.RowKit

theorem store_low (w : World) (L : List Value) (h : L = lowC.toList) : (storeCells ⟨w.heap.size, 0, none⟩ L 0).run Tryz.prog (w.alloc (.cells Tryz.zeroCells215 215)) = .ok () (w.alloc (.cells lowC 215)) := by
  subst h
  exact run_storeCells_new w _ _ lowC (by kernel_rfl) (by kernel_rfl) (by kernel_rfl)
set_option maxRecDepth 1000000 in
set_option maxHeartbeats 4000000 in
theorem lowLabels_any (w : World) : Calls Tryz.prog 146 #[] w fun e w' => e = .returned (.agg lowC) ∧ Below w.heap.size w w' := by
  go_enter Tryz.func146, Tryz.ntmps146
  go_wp2
  rw [store_low w _ (by kernel_rfl)]
  simp only [Result.andThen]
  rw [Oper.upon_skip]
  go_wp2
  refine bodyPost_ret (v := .agg lowC) ?_ rfl ⟨rfl, (Below.refl _ _).alloc (Nat.le_refl _) _⟩
  exact results_cell_row rfl _ _ w.heap.size 215 lowC (0, 0) _ rfl (heap_alloc_last w _) Tryz.underlying215 rfl (by kernel_rfl)
end Go.Proofs.YtkknenmpdimdbaaGreatDoor
