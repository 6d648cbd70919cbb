import Derived.Test.YtndbbfbihheagaaDoorAtFind
import Derived.Test.YtndbbfbihheagaaDoorAtNames
import Derived.Test.YtndbbfbihheagaaDoorRefFold
namespace Go.Proofs.YtndbbfbihheagaaDoor
open Go.RowKit
open TextMath (fold lo)

theorem names_ne : (List.finRange 62).all (fun i => !(rowL i).1.toList.isEmpty && !(rowL i).2.2.toList.isEmpty) = true := by kernel_rfl
theorem name_ne (i : Fin 62) : ¬ (rowL i).1.toList = [] ∧ ¬ (rowL i).2.2.toList = [] := by
  have h := List.all_eq_true.1 names_ne i (List.mem_finRange i)
  simpa using h
theorem rowOf_hit (f : ByteArray) (i : Fin 62) (h : hit f i = true) : rowOf f = some i := by
  cases hr : rowOf f with
  | none =>
    have := List.find?_eq_none.1 hr i (List.mem_finRange i)
    exact absurd h this
  | some j =>
    have := List.find?_some hr
    rw [hit_unique f i j h this]
theorem rowOf_none (f : ByteArray) (h : ∀ i, ¬ hit f i = true) : rowOf f = none := List.find?_eq_none.2 (fun i _ => h i)
def rowN (f : ByteArray) : Int := match rowOf f with
  | none => -1
  | some i => (i.1 : Int)
theorem rowN_hit (f : ByteArray) (i : Fin 62) (h : hit f i = true) : rowN f = (i.1 : Int) := by unfold rowN; rw [rowOf_hit f i h]
theorem rowN_none (f : ByteArray) (h : ∀ i, ¬ hit f i = true) : rowN f = -1 := by unfold rowN; rw [rowOf_none f h]
/-- The names that lie in a block. -/
def Nams (W : World) (b : Nat) : Prop := W.heap[b]? = some (.cells namC 48 (0, 0))
theorem Nams.cells {W : World} {b : Nat} (h : Nams W b) (i : Fin 62) : W.cell? ⟨b, i.1 * 3, none⟩ = some (.string (rowL i).1) ∧ W.cell? ⟨b, i.1 * 3 + 1, none⟩ = some (.string (rowL i).2.1) ∧ W.cell? ⟨b, i.1 * 3 + 2, none⟩ = some (.string (rowL i).2.2) := by
  have hl : i.1 < labs.length := by rw [labs_len]; exact i.2
  have key : ∀ r, r < 3 → W.cell? ⟨b, i.1 * 3 + r, none⟩ = (lbC (rowL i))[r]? := fun r hr => by
    rw [cell_of_row W b _ _ _ _ h]
    unfold namC
    rw [List.getElem?_toArray, flat_at labs i.1 r hl hr]
    rfl
  exact ⟨key 0 (by omega), key 1 (by omega), key 2 (by omega)⟩
theorem namC_size : namC.size = 186 := by kernel_rfl
theorem namC_one : ∀ v ∈ namC.toList, v.oneCell' = true := by
  have h : namC.toList.all (·.oneCell') = true := by kernel_rfl
  exact fun v hv => List.all_eq_true.1 h v hv
theorem st_nams (W : World) (cs : Array Value) (hz : cs.size = 186) (h1 : ∀ v ∈ cs.toList, v.oneCell' = true) : (storeCells ⟨W.heap.size, 0, none⟩ cs.toList 0).run Tryd.prog (W.alloc (.cells Tryd.zeroCells48 48)) = .ok () (W.alloc (.cells cs 48)) := by
  refine run_storeCells_new W _ _ cs (by rw [hz]; kernel_rfl) (by rw [hz]; kernel_rfl) ?_
  rw [Array.all_eq_true']
  intro v hv
  exact h1 v (by simpa using hv)
theorem names_q (w : World) : Calls Tryd.prog 13 #[] w fun e w' => ∃ cs, e = .returned (.agg cs) ∧ Hid (namC = cs) ∧ cs.size = 186 ∧ (∀ v ∈ cs.toList, v.oneCell' = true) ∧ Below w.heap.size w w' := by
  refine (names_any w).mono ?_
  intro e w' h
  exact ⟨namC, h.1, rfl, namC_size, namC_one, h.2⟩

theorem beq_t {a b : ByteArray} (h : a = b) : (a.toList == b.toList) = true := by rw [h]; exact beq_self_eq_true _
theorem beq_f {a b : ByteArray} (h : ¬ a = b) : (a.toList == b.toList) = false := by
  rw [beq_eq_false_iff_ne]
  intro h'
  rw [Lib.toList_data, Lib.toList_data] at h'
  exact h (ByteArray.ext (Array.toList_inj.1 h'))

end Go.Proofs.YtndbbfbihheagaaDoor
