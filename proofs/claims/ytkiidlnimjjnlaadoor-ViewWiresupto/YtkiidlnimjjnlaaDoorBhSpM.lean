import Derived.Test.YtkiidlnimjjnlaaDoorBhHdM
namespace Go.Proofs.YtkiidlnimjjnlaaDoor
namespace BhSpM
set_option linter.unusedVariables false

theorem sum_set : ∀ (l : List Nat) (i v : Nat), i < l.length → (l.set i v).sum + l.getD i 0 = l.sum + v
  | a :: l, 0, v, _ => by
    show v + l.sum + a = a + l.sum + v
    omega
  | a :: l, i + 1, v, h => by
    have ih := sum_set l i v (by simpa using h)
    show a + (l.set i v).sum + l.getD i 0 = a + l.sum + v
    omega
theorem getD_set_same (l : List Nat) (i v : Nat) (h : i < l.length) : (l.set i v).getD i 0 = v := by
  simp [List.getD, h]
theorem getD_set_other (l : List Nat) (i j v : Nat) (h : i ≠ j) : (l.set i v).getD j 0 = l.getD j 0 := by
  simp [List.getD, List.getElem?_set_ne h]
/-- The length of a node's content, by the bytes that stand open. -/
def len (σ : List Nat) (d : Nat) (made : Bool) (b : Nat) : Nat := if made then σ.getD (d + 1) 0 else b
def shut (σ : List Nat) (d : Nat) (made : Bool) : List Nat := if made then σ.set (d + 1) 0 else σ
/-- One node more, at its head's size h. -/
def stp (σ : List Nat) (d : Nat) (made : Bool) (b h : Nat) : List Nat := (shut σ d made).set d ((shut σ d made).getD d 0 + h + len σ d made b)
theorem shut_len (σ : List Nat) (d : Nat) (made : Bool) : (shut σ d made).length = σ.length := by unfold shut; split <;> simp
theorem stp_len (σ : List Nat) (d : Nat) (made : Bool) (b h : Nat) : (stp σ d made b h).length = σ.length := by unfold stp; rw [List.length_set, shut_len]
theorem shut_at (σ : List Nat) (d : Nat) (made : Bool) : (shut σ d made).getD d 0 = σ.getD d 0 := by
  unfold shut
  split
  · exact getD_set_other _ _ _ _ (by omega)
  · rfl
theorem stp_sum (σ : List Nat) (d : Nat) (made : Bool) (b h : Nat) (hd : d + 1 < σ.length) : (stp σ d made b h).sum = σ.sum + h + (if made then 0 else b) := by
  have h1 := sum_set (shut σ d made) d ((shut σ d made).getD d 0 + h + len σ d made b) (by rw [shut_len]; omega)
  have h2 : (shut σ d made).sum + len σ d made b = σ.sum + (if made then 0 else b) := by
    unfold shut len
    cases made
    · rfl
    · have := sum_set σ (d + 1) 0 hd
      simp only [if_true]
      omega
  unfold stp
  omega
theorem stp_zero (σ : List Nat) (d : Nat) (made : Bool) (b h : Nat) (hd : d + 1 < σ.length) (hz : ∀ x, d + 1 < x → σ.getD x 0 = 0) (hm : made = false → σ.getD (d + 1) 0 = 0) : ∀ x, d < x → (stp σ d made b h).getD x 0 = 0 := fun x hx => by
  unfold stp
  rw [getD_set_other _ _ _ _ (by omega)]
  unfold shut
  cases made
  · by_cases e : x = d + 1
    · rw [e]
      exact hm rfl
    · exact hz x (by omega)
  · simp only [if_true]
    by_cases e : x = d + 1
    · rw [e]
      exact getD_set_same _ _ _ hd
    · rw [getD_set_other _ _ _ _ (by omega)]
      exact hz x (by omega)
theorem stp_less (σ : List Nat) (d : Nat) (made : Bool) (b h x : Nat) (hx : x < d) : (stp σ d made b h).getD x 0 = σ.getD x 0 := by
  unfold stp
  rw [getD_set_other _ _ _ _ (by omega)]
  unfold shut
  cases made
  · rfl
  · exact getD_set_other _ _ _ _ (by omega)
theorem stp_here (σ : List Nat) (d : Nat) (made : Bool) (b h : Nat) (hd : d + 1 < σ.length) : (stp σ d made b h).getD d 0 = σ.getD d 0 + h + len σ d made b := by
  unfold stp
  rw [getD_set_same _ _ _ (by rw [shut_len]; omega), shut_at]
theorem sum_zero : ∀ l : List Nat, (∀ x, l.getD x 0 = 0) → l.sum = 0
  | [], _ => rfl
  | a :: l, h => by
    have h0 : a = 0 := h 0
    have := sum_zero l (fun x => h (x + 1))
    show a + l.sum = 0
    omega
/-- What stands at one depth alone is all of it. -/
theorem sum_one (l : List Nat) (i : Nat) (hi : i < l.length) (h : ∀ x, x ≠ i → l.getD x 0 = 0) : l.sum = l.getD i 0 := by
  have h1 := sum_set l i 0 hi
  have h2 := sum_zero (l.set i 0) (fun x => by
    by_cases e : x = i
    · rw [e]
      exact getD_set_same _ _ _ hi
    · rw [getD_set_other _ _ _ _ (by omega)]
      exact h x e)
  omega
theorem sum_ge : ∀ (l : List Nat) (i : Nat), l.getD i 0 ≤ l.sum
  | [], i => by simp
  | a :: l, 0 => by show a ≤ a + l.sum; omega
  | a :: l, i + 1 => by
    have := sum_ge l i
    show l.getD i 0 ≤ a + l.sum
    omega
end BhSpM
end Go.Proofs.YtkiidlnimjjnlaaDoor
