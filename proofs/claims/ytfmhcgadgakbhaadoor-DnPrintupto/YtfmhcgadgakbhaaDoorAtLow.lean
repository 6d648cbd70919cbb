import Derived.Test.YtfmhcgadgakbhaaDoorAtTab
import Derived.Deep.WholeRow
namespace Go.Proofs.YtfmhcgadgakbhaaDoor
open Go.RowKit

theorem store_low (w : World) (L : List Value) (h : L = lowC.toList) : (storeCells ⟨w.heap.size, 0, none⟩ L 0).run Tryd.prog (w.alloc (.cells Tryd.zeroCells114 114)) = .ok () (w.alloc (.cells lowC 114)) := by
  subst h
  exact run_storeCells_new w _ _ lowC (by kernel_rfl) (by kernel_rfl) (by kernel_rfl)
set_option maxRecDepth 1000000 in
set_option maxHeartbeats 4000000 in
theorem lowLabels_any (w : World) : Calls Tryd.prog 62 #[] w fun e w' => e = .returned (.agg lowC) ∧ Below w.heap.size w w' := by
  go_enter Tryd.func62, Tryd.ntmps62
  go_wp2
  rw [store_low w _ (by kernel_rfl)]
  simp only [Result.andThen]
  rw [Oper.upon_skip]
  go_wp2
  refine bodyPost_ret (v := .agg lowC) ?_ rfl ⟨rfl, (Below.refl _ _).alloc (Nat.le_refl _) _⟩
  exact results_cell_row rfl _ _ w.heap.size 114 lowC (0, 0) _ rfl (heap_alloc_last w _) Tryd.underlying114 rfl (by kernel_rfl)
end Go.Proofs.YtfmhcgadgakbhaaDoor
