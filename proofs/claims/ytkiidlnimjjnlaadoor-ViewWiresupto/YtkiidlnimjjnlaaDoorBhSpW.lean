import Derived.Test.YtkiidlnimjjnlaaDoorBhSpB
namespace Go.Proofs.YtkiidlnimjjnlaaDoor
open Go.RowKit
set_option linter.unusedVariables false
theorem outB_le (H : Nat → List UInt8) (B : Nat → ByteArray) : ∀ (n j : Nat), j ≤ n → (outB H B 0 j).length ≤ (outB H B 0 n).length
  | 0, j, h => by rw [Nat.le_zero.1 h]; exact Nat.le_refl _
  | n + 1, j, h => by
    by_cases e : j = n + 1
    · rw [e]; exact Nat.le_refl _
    · have := outB_le H B n j (by omega)
      rw [outB_snoc, List.length_append]
      omega
theorem wr_next (j : Nat) (h : j ≤ 67108864) : wrap64 ((j : Int) + 1) = (j : Int) + 1 := by unfold wrap64; omega
theorem own_nil (W : World) (B : Nat) : Own W B (.slice none 0 0) [] := ⟨rfl, Or.inl ⟨rfl, rfl⟩⟩
/-- What spelt answers. -/
def SplR (e : Ending) (n : Nat) (D C T : Nat → Int) (M : Nat → Bool) (B : Nat → ByteArray) : Prop := ∃ (H : Nat → List UInt8) (σ : List Nat) (sh : Bool), e = .returned (.tuple #[.string (S (outB H B 0 n)), .bool sh]) ∧ SpI n 0 D C T M B σ H
end Go.Proofs.YtkiidlnimjjnlaaDoor
