import Derived.Test.YtkknenmpdimdbaaDoorAtMapM
import Derived.Test.YtkknenmpdimdbaaDoorAtNum
import Derived.Deep.RegionHeld3
import Derived.Deep.RegionHeldLaw
import Derived.Deep.DeepCutAuto
namespace Go.Proofs.YtkknenmpdimdbaaDoor
open Go.RowKit

theorem bkC_full (m : Nat) : bkC m (upF 62) = (labs.flatMap lbC ++ [Value.map (some m)]).toArray := by kernel_rfl
theorem flat_at (l : List Lb) (j r : Nat) (hj : j < l.length) (hr : r < 3) : (l.flatMap lbC)[j * 3 + r]? = (lbC l[j])[r]? := by
  induction l generalizing j with
  | nil => simp at hj
  | cons m l ih =>
    have e : (m :: l).flatMap lbC = lbC m ++ l.flatMap lbC := rfl
    have h3 : (lbC m).length = 3 := rfl
    rw [e]
    cases j with
    | zero => rw [List.getElem?_append_left (by omega)]; simp
    | succ j =>
      rw [List.getElem?_append_right (by omega), h3, show (j + 1) * 3 + r - 3 = j * 3 + r by omega, ih j (by simpa using hj)]
      rfl
theorem flat_len (l : List Lb) : (l.flatMap lbC).length = l.length * 3 := by
  induction l with
  | nil => rfl
  | cons m l ih =>
    have e : (m :: l).flatMap lbC = lbC m ++ l.flatMap lbC := rfl
    rw [e, List.length_append, ih, List.length_cons]
    show 3 + _ = _
    omega
/-- A book that lies in a block. -/
def Book (W : World) (b m : Nat) : Prop := W.heap[b]? = some (.cells (bkC m (upF 62)) 109 (0, 0))
theorem Book.cells {W : World} {b m : Nat} (h : Book W b m) (i : Fin 62) : W.cell? ⟨b, i.1 * 3, none⟩ = some (.string (rowL i).1) ∧ W.cell? ⟨b, i.1 * 3 + 1, none⟩ = some (.string (rowL i).2.1) ∧ W.cell? ⟨b, i.1 * 3 + 2, none⟩ = some (.string (rowL i).2.2) := by
  have hl : i.1 < labs.length := by rw [labs_len]; exact i.2
  have key : ∀ r, r < 3 → W.cell? ⟨b, i.1 * 3 + r, none⟩ = (lbC (rowL i))[r]? := fun r hr => by
    rw [cell_of_row W b _ _ _ _ h, bkC_full]
    rw [List.getElem?_toArray, List.getElem?_append_left (by rw [flat_len, labs_len]; have := i.2; omega), flat_at labs i.1 r hl hr]
    rfl
  exact ⟨key 0 (by omega), key 1 (by omega), key 2 (by omega)⟩
theorem Book.map {W : World} {b m : Nat} (h : Book W b m) : W.cell? ⟨b, 186, none⟩ = some (.map (some m)) := by
  rw [cell_of_row W b _ _ _ _ h, bkC_last]
theorem Book.lt {W : World} {b m : Nat} (h : Book W b m) : b < W.heap.size := (Array.getElem?_eq_some_iff.1 h).1
theorem Book.below {W W' : World} {b m : Nat} (h : Book W b m) (hb : Below W.heap.size W W') : Book W' b m := (hb.block b h.lt).trans h

end Go.Proofs.YtkknenmpdimdbaaDoor
