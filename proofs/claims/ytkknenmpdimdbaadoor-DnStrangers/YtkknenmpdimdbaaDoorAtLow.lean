import Derived.Test.YtkknenmpdimdbaaDoorAtTab
import Derived.Deep.WholeRow
namespace Go.Proofs.YtkknenmpdimdbaaDoor
open Go.RowKit

theorem store_low (w : World) (L : List Value) (h : L = lowC.toList) : (storeCells ⟨w.heap.size, 0, none⟩ L 0).run Tryd.prog (w.alloc (.cells Tryd.zeroCells141 141)) = .ok () (w.alloc (.cells lowC 141)) := by
  subst h
  exact run_storeCells_new w _ _ lowC (by kernel_rfl) (by kernel_rfl) (by kernel_rfl)
set_option maxRecDepth 1000000 in
set_option maxHeartbeats 4000000 in
theorem lowLabels_any (w : World) : Calls Tryd.prog 74 #[] w fun e w' => e = .returned (.agg lowC) ∧ Below w.heap.size w w' := by
  go_enter Tryd.func74, Tryd.ntmps74
  go_wp2
  rw [store_low w _ (by kernel_rfl)]
  simp only [Result.andThen]
  rw [Oper.upon_skip]
  go_wp2
  refine bodyPost_ret (v := .agg lowC) ?_ rfl ⟨rfl, (Below.refl _ _).alloc (Nat.le_refl _) _⟩
  exact results_cell_row rfl _ _ w.heap.size 141 lowC (0, 0) _ rfl (heap_alloc_last w _) Tryd.underlying141 rfl (by kernel_rfl)
end Go.Proofs.YtkknenmpdimdbaaDoor
