import Derived.Test.YtnjakapoggjicaaDoorAtSet
import Derived.BigQuiet
namespace Go.Proofs.YtnjakapoggjicaaDoor
open Go.RowKit
set_option linter.unusedVariables false

theorem toListS (x : List UInt8) : (S x).toList = x := by rw [Lib.toList_data, S_l]
theorem strNe {x y : List UInt8} (h : ¬ x = y) : ((S x).toList == (S y).toList) = false := by
  rw [toListS, toListS]
  simp [h]
/-- A row of texts, wherever it lies. -/
def Row (w : World) (a : Option Addr) (l : List (List UInt8)) : Prop := ∀ i (hi : i < l.length), ∃ b off, a = some ⟨b, off, none⟩ ∧ w.cell? ⟨b, off + i, none⟩ = some (.string (S l[i]))
theorem TRow.row {w : World} {a : Option Addr} {l : List (List UInt8)} (h : TRow w a l) : Row w a l := fun i hi => by
  obtain ⟨g, e, h1⟩ := h i hi
  exact ⟨g, 0, e, by rw [Nat.zero_add]; exact h1⟩
theorem TRow.drop {w : World} {g : Nat} {l : List (List UInt8)} (h : TRow w (some ⟨g, 0, none⟩) l) (k : Nat) : Row w (some ⟨g, k, none⟩) (l.drop k) := fun i hi => by
  rw [List.length_drop] at hi
  obtain ⟨g', e, h1⟩ := h (k + i) (by omega)
  injection e with e
  injection e with e1
  subst e1
  refine ⟨g, k, rfl, ?_⟩
  rw [h1]
  simp
theorem Row.below {w w' : World} {a : Option Addr} {l : List (List UInt8)} (h : Row w a l) (hb : Below w.heap.size w w') : Row w' a l := fun i hi => by
  obtain ⟨b, off, e, h1⟩ := h i hi
  refine ⟨b, off, e, ?_⟩
  rw [hb.cell (World.block_lt_of_cell? w _ h1)]
  exact h1
theorem takeStep {l k : List (List UInt8)} {i : Nat} (h : l.take i = k.take i) (h1 : i < l.length) (h2 : i < k.length) (e : l[i] = k[i]) : l.take (i + 1) = k.take (i + 1) := by
  rw [List.take_succ_eq_append_getElem h1, List.take_succ_eq_append_getElem h2, h, e]

end Go.Proofs.YtnjakapoggjicaaDoor
