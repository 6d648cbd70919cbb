import Derived.Test.YtkknenmpdimdbaaGreatDoorFW4
import Derived.Deep.WholeRow
namespace Go.Proofs.YtkknenmpdimdbaaGreatDoor
open Go.RowKit
def namC : Array Value := (labs.flatMap lbC).toArray
theorem store_names (w : World) (L : List Value) (h : L = namC.toList) : (storeCells ⟨w.heap.size, 0, none⟩ L 0).run Tryz.prog (w.alloc (.cells Tryz.zeroCells171 171)) = .ok () (w.alloc (.cells namC 171)) := by
 subst h
 exact run_storeCells_new w _ _ namC (by kernel_rfl) (by kernel_rfl) (by kernel_rfl)
theorem op_value {o : Oper} {a : Act} {w : World} {K : Act → World → Prop} {Q : Exit → Act → World → Prop} (v : Value) (hr : (execOp a.eval o).run Tryz.prog w = .ok (.value v) w) (h : K (a.put o.dst v) w) : o.wp Tryz.prog a w K Q := by
 unfold Oper.wp
 rw [hr]
 exact h
set_option maxRecDepth 1000000 in
set_option maxHeartbeats 4000000 in
theorem names_any (w : World) : Calls Tryz.prog 106 #[] w fun e w' => e = .returned (.agg namC) ∧ Below w.heap.size w w' := by
 go_enter Tryz.func106, Tryz.ntmps106
 go_wp2
 refine op_value (.agg namC) (by kernel_rfl) ?_
 go_wp2
 rw [store_names w _ rfl]
 simp only [Result.andThen]
 rw [Oper.upon_skip]
 go_wp2
 refine bodyPost_ret (v := .agg namC) ?_ rfl ⟨rfl, (Below.refl _ _).alloc (Nat.le_refl _) _⟩
 exact results_cell_row rfl _ _ w.heap.size 171 namC (0, 0) _ rfl (heap_alloc_last w _) Tryz.underlying171 rfl (by kernel_rfl)
end Go.Proofs.YtkknenmpdimdbaaGreatDoor
