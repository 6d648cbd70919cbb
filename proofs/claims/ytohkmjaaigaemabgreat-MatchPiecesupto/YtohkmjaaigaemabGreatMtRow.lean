import Derived.Test.YtohkmjaaigaemabGreatMtOwn
import Derived.Test.YtohkmjaaigaemabGreatAtShelf
import Derived.Test.YtohkmjaaigaemabGreatMtFitM
import Derived.Deep.OwnRows
import Derived.Deep.WholeRow
import Derived.BigQuiet
namespace Go.Proofs.YtohkmjaaigaemabGreat
open Go.RowKit
set_option linter.unusedVariables false

theorem toListS (x : List UInt8) : (S x).toList = x := by rw [Lib.toList_data, S_l]
theorem strNe {x y : List UInt8} (h : ¬ x = y) : ((S x).toList == (S y).toList) = false := by
  rw [toListS, toListS]
  simp [h]
theorem row_cell {W : World} {g j : Nat} {cs : Array Value} {t : TypeId} (h : W.heap[g]? = some (.cells cs t (0, 0))) (hj : j < cs.size) : W.cell? ⟨g, j, none⟩ = some cs[j] ∧ W.frozen? ⟨g, j, none⟩ = false := by
  refine ⟨?_, Go.frozen_of_row _ _ _ _ _ h⟩
  rw [cell_of_row W g j cs t (0, 0) h]
  simp [hj]
/-- A row of texts, wherever it lies. -/
def Row (w : World) (a : Option Addr) (l : List (List UInt8)) : Prop := ∀ i (hi : i < l.length), ∃ b off, a = some ⟨b, off, none⟩ ∧ w.cell? ⟨b, off + i, none⟩ = some (.string (S l[i]))
theorem Row.below {w w' : World} {a : Option Addr} {l : List (List UInt8)} (h : Row w a l) (hb : Below w.heap.size w w') : Row w' a l := fun i hi => by
  obtain ⟨b, off, e, h1⟩ := h i hi
  refine ⟨b, off, e, ?_⟩
  rw [hb.cell (World.block_lt_of_cell? w _ h1)]
  exact h1
theorem ownS_row {w : World} {B : Nat} {v : Value} {l k : List (List UInt8)} (h : OwnS w B v (l ++ k)) : ∃ a n c, v = .slice a n c ∧ n = (l ++ k).length ∧ Row w a l := by
  rcases ownS_form h with ⟨rfl, e⟩ | ⟨g, c, rfl⟩
  · have e' := List.append_eq_nil_iff.1 e
    exact ⟨none, 0, 0, rfl, by rw [e]; rfl, fun i hi => by rw [e'.1] at hi; simp at hi⟩
  · refine ⟨_, _, _, rfl, rfl, fun i hi => ⟨g, 0, rfl, ?_⟩⟩
    rw [Nat.zero_add, ownS_cell h i (by rw [List.length_append]; omega), List.getElem_append_left hi]
/-- The three cells of a pattern. -/
def PatB (W : World) (g : Nat) (i : ByteArray) (a : Option Addr) (n c : Nat) (f : ByteArray) : Prop := W.heap[g]? = some (.cells #[.string i, .slice a n c, .string f] 24 (0, 0))
theorem PatB.below {W W' : World} {g : Nat} {i : ByteArray} {a : Option Addr} {n c : Nat} {f : ByteArray} (h : PatB W g i a n c f) (hb : Below W.heap.size W W') : PatB W' g i a n c f := (hb.block g (Array.getElem?_eq_some_iff.1 h).1).trans h
theorem PatB.cells {W : World} {g : Nat} {i : ByteArray} {a : Option Addr} {n c : Nat} {f : ByteArray} (h : PatB W g i a n c f) :
    (W.cell? ⟨g, 0, none⟩ = some (.string i) ∧ W.frozen? ⟨g, 0, none⟩ = false) ∧ (W.cell? ⟨g, 1, none⟩ = some (.slice a n c) ∧ W.frozen? ⟨g, 1, none⟩ = false) ∧ (W.cell? ⟨g, 2, none⟩ = some (.string f) ∧ W.frozen? ⟨g, 2, none⟩ = false) :=
  ⟨row_cell h (j := 0) (by simp), row_cell h (j := 1) (by simp), row_cell h (j := 2) (by simp)⟩
theorem patB_new (W : World) (i : ByteArray) (a : Option Addr) (n c : Nat) (f : ByteArray) : PatB (W.alloc (.cells #[.string i, .slice a n c, .string f] 24)) W.heap.size i a n c f := heap_alloc_last W _
theorem drewN_below (W : World) (B q : Nat) : Below B W (W.drewN q) := ⟨rfl, rfl, rfl, Nat.le_refl _, fun _ _ => rfl⟩
end Go.Proofs.YtohkmjaaigaemabGreat
