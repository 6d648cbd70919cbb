import Derived.Test.YtkiidlnimjjnlaaDoorBhHdM
namespace Go.Proofs.YtkiidlnimjjnlaaDoor
open Go.RowKit
set_option linter.unusedVariables false

theorem says_wide (n : Nat) (h : n < 4294967296) : Says n (ll n) := by
  rcases ll_cases n with ⟨h1, e⟩ | ⟨h1, h2, e⟩ | ⟨h1, h2, h3, e⟩ | ⟨h1, h2, h3, h4, e⟩ | ⟨h1, h2, h3, h4, e⟩ <;> rw [e]
  · exact Or.inl ⟨rfl, h1⟩
  · exact Or.inr ⟨by omega, by omega, by simpa using h2⟩
  · exact Or.inr ⟨by omega, by omega, by simpa using h3⟩
  · exact Or.inr ⟨by omega, by omega, by simpa using h4⟩
  · exact Or.inr ⟨by omega, by omega, by simpa using h⟩
/-- What more bytes than it needs can say too. -/
theorem says_more (n k : Nat) (hk : ll n < k) (h4 : k ≤ 4) : Says n k := by
  refine Or.inr ⟨by omega, h4, ?_⟩
  have hp : 256 ^ (ll n + 1) ≤ 256 ^ k := Nat.pow_le_pow_right (by decide) hk
  refine Nat.lt_of_lt_of_le ?_ hp
  rcases ll_cases n with ⟨h1, e⟩ | ⟨h1, h2, e⟩ | ⟨h1, h2, h3, e⟩ | ⟨h1, h2, h3, h4, e⟩ | ⟨h1, h2, h3, h4, e⟩ <;> rw [e]
  · simp; omega
  · simp; omega
  · simp; omega
  · simp; omega
  · omega
end Go.Proofs.YtkiidlnimjjnlaaDoor

namespace Go.Proofs.YtkiidlnimjjnlaaDoor
open Go.RowKit
set_option linter.unusedVariables false

theorem tag_wrap (c t : Nat) (hc : c ≤ 3) (ht : t ≤ 30) : wrap64 ((c : Int) * 64) = (c : Int) * 64 ∧ wrap64 ((c : Int) * 64 + (t : Int)) = (c : Int) * 64 + (t : Int) ∧ wrap64 ((c : Int) * 64 + (t : Int) + 32) = (c : Int) * 64 + (t : Int) + 32 := by
  unfold wrap64
  omega
theorem fb_plain (c t : Nat) (hc : c ≤ 3) (ht : t ≤ 30) : (c : Int) * 64 + (t : Int) = ((fb c false t).toNat : Int) := by rw [fb_n c false t hc ht]; simp
theorem fb_made (c t : Nat) (hc : c ≤ 3) (ht : t ≤ 30) : (c : Int) * 64 + (t : Int) + 32 = ((fb c true t).toNat : Int) := by rw [fb_n c true t hc ht]; simp; omega
theorem byte_n (n : Nat) (h : n < 256) : (n : Int) = ((UInt8.ofNat n).toNat : Int) := by rw [UInt8.toNat_ofNat']; omega
/-- A text of two bytes, of one. -/
theorem two_back (V : World) (g : Nat) (hg : g = V.heap.size) (x y : UInt8) : (convert 68 9 (.slice (some ⟨g, 0, none⟩) 2 2)).run Tryd.prog (V.alloc (.cells #[.int .u8 (x.toNat : Int), .int .u8 (y.toNat : Int)] 5)) = .ok (.string (S [x, y])) (V.alloc (.cells #[.int .u8 (x.toNat : Int), .int .u8 (y.toNat : Int)] 5)) := by
  subst hg
  refine conv_back (P := Tryd.prog) _ _ _ _ V.heap.size 2 2 [x, y] Tryd.underlying68 Tryd.underlying5 Tryd.underlying9 rfl ?_
  intro j hj
  have : j = 0 ∨ j = 1 := by simp at hj; omega
  rcases this with rfl | rfl <;> simp [go_sem]
theorem one_back (V : World) (g : Nat) (hg : g = V.heap.size) (x : UInt8) : (convert 68 9 (.slice (some ⟨g, 0, none⟩) 1 1)).run Tryd.prog (V.alloc (.cells #[.int .u8 (x.toNat : Int)] 5)) = .ok (.string (S [x])) (V.alloc (.cells #[.int .u8 (x.toNat : Int)] 5)) := by
  subst hg
  refine conv_back (P := Tryd.prog) _ _ _ _ V.heap.size 1 1 [x] Tryd.underlying68 Tryd.underlying5 Tryd.underlying9 rfl ?_
  intro j hj
  have : j = 0 := by simp at hj; omega
  subst this
  simp [go_sem]
theorem beN_ahead : ∀ (j n : Nat), beN (j + 1) n = UInt8.ofNat (n / 256 ^ j % 256) :: beN j n
  | 0, n => by simp [beN]
  | j + 1, n => by
    have ih := beN_ahead j (n / 256)
    rw [beN, ih, Nat.div_div_eq_div_mul, ← Nat.pow_succ', List.cons_append]
    rfl
end Go.Proofs.YtkiidlnimjjnlaaDoor

namespace Go.Proofs.YtkiidlnimjjnlaaDoor
open Go.RowKit
set_option linter.unusedVariables false

theorem s_two (x y : List UInt8) : S x ++ S y = S (x ++ y) := by refine S_eq _ _ ?_; rw [app_l, S_l, S_l]
end Go.Proofs.YtkiidlnimjjnlaaDoor
