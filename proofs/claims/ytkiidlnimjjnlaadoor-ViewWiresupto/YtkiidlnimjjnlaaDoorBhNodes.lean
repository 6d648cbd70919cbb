import Derived.Test.YtkiidlnimjjnlaaDoorBHeadLaw
import Derived.Test.YtkiidlnimjjnlaaDoorBJoin4
import Derived.BigQuiet
namespace Go.Proofs.YtkiidlnimjjnlaaDoor
open Go.RowKit
set_option linter.unusedVariables false

/-- A list of nodes that came in: depth, class, made, tag, body. -/
def IsNodes (w : World) (a : Option Addr) (n : Nat) (D C T : Nat → Int) (M : Nat → Bool) (B : Nat → ByteArray) : Prop := ∀ i, i < n → ∃ b off, a = some ⟨b, off, none⟩ ∧ w.cell? ⟨b, off + i * 5, none⟩ = some (.int .i64 (D i)) ∧ w.cell? ⟨b, off + i * 5 + 1, none⟩ = some (.int .i64 (C i)) ∧ w.cell? ⟨b, off + i * 5 + 2, none⟩ = some (.bool (M i)) ∧ w.cell? ⟨b, off + i * 5 + 3, none⟩ = some (.int .i64 (T i)) ∧ w.cell? ⟨b, off + i * 5 + 4, none⟩ = some (.string (B i))
theorem IsNodes.below {w w' : World} {a : Option Addr} {n : Nat} {D C T : Nat → Int} {M : Nat → Bool} {B : Nat → ByteArray} (h : IsNodes w a n D C T M B) (hb : Below w.heap.size w w') : IsNodes w' a n D C T M B := fun i hi => by
  obtain ⟨b, off, e, h0, h1, h2, h3, h4⟩ := h i hi
  have hlt : b < w.heap.size := World.block_lt_of_cell? w _ h0
  exact ⟨b, off, e, (hb.cell hlt).trans h0, (hb.cell hlt).trans h1, (hb.cell hlt).trans h2, (hb.cell hlt).trans h3, (hb.cell hlt).trans h4⟩
/-- What a law's function answers, and what it means if it is true. -/
def Ans (e : Ending) (p : Prop) : Prop := ∃ b, e = .returned (.bool b) ∧ (b = true → p)
theorem belowN {B : Nat} {w W : World} (h : Below B w W) (q : Nat) : Below B w (W.drewN q) := h.trans ⟨rfl, rfl, rfl, Nat.le_refl _, fun _ _ => rfl⟩
theorem ans_yes {e : Ending} {p : Prop} (h : e = .returned (.bool true)) (hp : p) : Ans e p := ⟨true, h, fun _ => hp⟩
theorem ans_no {e : Ending} {p : Prop} (h : e = .returned (.bool false)) : Ans e p := ⟨false, h, fun h => by cases h⟩
/-- A node that may stand where it does. -/
def Good (D C T : Nat → Int) (M : Nat → Bool) (B : Nat → ByteArray) (i : Nat) : Prop := 0 ≤ C i ∧ C i ≤ 3 ∧ 0 ≤ T i ∧ T i ≤ 30 ∧ 1 ≤ D i ∧ D i ≤ 64 ∧ (M i = true → (B i).toList.isEmpty = true) ∧ (i = 0 → D i = 1) ∧ (∀ j, i = j + 1 → 2 ≤ D i ∧ D i ≤ D j + 1 ∧ (D j < D i → M j = true))

/-- The bytes of the bodies, six more for each. -/
def bsum (B : Nat → ByteArray) : Nat → Nat
  | 0 => 0
  | k + 1 => bsum B k + (B k).size + 6
def SmlR (e : Ending) (n : Nat) (B : Nat → ByteArray) : Prop := Ans e (bsum B n ≤ 67108864)
end Go.Proofs.YtkiidlnimjjnlaaDoor
