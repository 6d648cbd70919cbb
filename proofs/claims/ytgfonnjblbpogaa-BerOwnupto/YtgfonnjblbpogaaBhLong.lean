import Derived.Test.YtgfonnjblbpogaaBhHdM
namespace Go.Proofs.Ytgfonnjblbpogaa
open Go.RowKit
set_option linter.unusedVariables false

/-- How many bytes a length takes behind its length byte, in the shortest form. -/
theorem wide_any (n : Nat) (w : World) : Calls Try.prog 33 #[.int .i64 (n : Int)] w fun e w' => e = .returned (.int .i64 (ll n : Int)) ∧ w' = w := by
  rcases ll_cases n with ⟨h1, e⟩ | ⟨h1, h2, e⟩ | ⟨h1, h2, h3, e⟩ | ⟨h1, h2, h3, h4, e⟩ | ⟨h1, h2, h3, h4, e⟩
  · rw [e]
    have i1 : (n : Int) < 128 := by omega
    clear h1 e
    go_enter Try.func33, Try.ntmps33
    go_wp2_with fail
    go_ret
    exact ⟨rfl, rfl⟩
  · rw [e]
    have i1 : ¬ (n : Int) < 128 := by omega
    have i2 : (n : Int) < 256 := by omega
    clear h1 h2 e
    go_enter Try.func33, Try.ntmps33
    go_wp2_with fail
    go_ret
    exact ⟨rfl, rfl⟩
  · rw [e]
    have i1 : ¬ (n : Int) < 128 := by omega
    have i2 : ¬ (n : Int) < 256 := by omega
    have i3 : (n : Int) < 65536 := by omega
    clear h1 h2 h3 e
    go_enter Try.func33, Try.ntmps33
    go_wp2_with fail
    go_ret
    exact ⟨rfl, rfl⟩
  · rw [e]
    have i1 : ¬ (n : Int) < 128 := by omega
    have i2 : ¬ (n : Int) < 256 := by omega
    have i3 : ¬ (n : Int) < 65536 := by omega
    have i4 : (n : Int) < 16777216 := by omega
    clear h1 h2 h3 h4 e
    go_enter Try.func33, Try.ntmps33
    go_wp2_with fail
    go_ret
    exact ⟨rfl, rfl⟩
  · rw [e]
    have i1 : ¬ (n : Int) < 128 := by omega
    have i2 : ¬ (n : Int) < 256 := by omega
    have i3 : ¬ (n : Int) < 65536 := by omega
    have i4 : ¬ (n : Int) < 16777216 := by omega
    clear h1 h2 h3 h4 e
    go_enter Try.func33, Try.ntmps33
    go_wp2_with fail
    go_ret
    exact ⟨rfl, rfl⟩
theorem says_wide (n : Nat) (h : n < 4294967296) : Says n (ll n) := by
  rcases ll_cases n with ⟨h1, e⟩ | ⟨h1, h2, e⟩ | ⟨h1, h2, h3, e⟩ | ⟨h1, h2, h3, h4, e⟩ | ⟨h1, h2, h3, h4, e⟩ <;> rw [e]
  · exact Or.inl ⟨rfl, h1⟩
  · exact Or.inr ⟨by omega, by omega, by simpa using h2⟩
  · exact Or.inr ⟨by omega, by omega, by simpa using h3⟩
  · exact Or.inr ⟨by omega, by omega, by simpa using h4⟩
  · exact Or.inr ⟨by omega, by omega, by simpa using h⟩
/-- What more bytes than it needs can say too. -/
theorem says_more (n k : Nat) (hk : ll n < k) (h4 : k ≤ 4) : Says n k := by
  refine Or.inr ⟨by omega, h4, ?_⟩
  have hp : 256 ^ (ll n + 1) ≤ 256 ^ k := Nat.pow_le_pow_right (by decide) hk
  refine Nat.lt_of_lt_of_le ?_ hp
  rcases ll_cases n with ⟨h1, e⟩ | ⟨h1, h2, e⟩ | ⟨h1, h2, h3, e⟩ | ⟨h1, h2, h3, h4, e⟩ | ⟨h1, h2, h3, h4, e⟩ <;> rw [e]
  · simp; omega
  · simp; omega
  · simp; omega
  · simp; omega
  · omega
end Go.Proofs.Ytgfonnjblbpogaa
