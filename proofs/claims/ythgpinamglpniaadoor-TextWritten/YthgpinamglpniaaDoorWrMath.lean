import Derived.Test.YthgpinamglpniaaDoorBaseLoop
import Derived.Test.YthgpinamglpniaaDoorHex
import Derived.Test.YthgpinamglpniaaDoorSafe
import Derived.ProofKit
import Derived.OpenShut
import Derived.Deep.RegionHeld3
import Derived.Deep.DrawnRows
namespace Go.Proofs.YthgpinamglpniaaDoor
open Go.RowKit
open TextMath (al grp b64 dg hex)
attribute [local go_sem ↓] Go.wp_at_zero Go.wp_at_succ

theorem ok_al (n : Nat) (h : n < 64) : okB (al n) = true ∧ mkB (al n) = false ∧ al n ≠ 32 := by
  have e := TextMath.al_toNat n h
  have : (43 ≤ (al n).toNat ∧ (al n).toNat ≤ 57 ∨ 65 ≤ (al n).toNat ∧ (al n).toNat ≤ 122) := by
    rw [e]; repeat' split
    all_goals omega
  refine ⟨?_, ?_, ?_⟩
  · unfold okB; simp; omega
  · unfold mkB; simp; omega
  · intro hh; rw [hh] at this; revert this; decide
theorem ok_dg (n : Nat) (h : n < 16) : okB (dg n) = true ∧ mkB (dg n) = false ∧ dg n ≠ 32 := by
  have e := TextMath.dg_toNat n h
  have : (48 ≤ (dg n).toNat ∧ (dg n).toNat ≤ 57 ∨ 97 ≤ (dg n).toNat ∧ (dg n).toNat ≤ 102) := by
    rw [e]; split <;> omega
  refine ⟨?_, ?_, ?_⟩
  · unfold okB; simp; omega
  · unfold mkB; simp; omega
  · intro hh; rw [hh] at this; revert this; decide

/-- Bytes that may stand anywhere in a plain value. -/
def good (b : UInt8) : Prop := okB b = true ∧ mkB b = false ∧ b ≠ 32
theorem plain_good (l : List UInt8) (h : ∀ b ∈ l, good b) : plain l = true := by
  unfold plain safe
  have h1 : l.all okB = true := List.all_eq_true.2 fun b hb => (h b hb).1
  have h2 : l.head?.any mkB = false := by
    cases l with
    | nil => rfl
    | cons a t => exact (h a (by simp)).2.1
  have h3 : (l.getLast? == some 32) = false := by
    rw [beq_eq_false_iff_ne]
    intro hh
    exact (h 32 (List.mem_of_getLast? hh)).2.2 rfl
  rw [h1, h2, h3]; rfl
theorem good_pad : good 61 := ⟨by decide, by decide, by decide⟩
theorem good_hex (l : List UInt8) : ∀ b ∈ hex l, good b := by
  intro b hb
  unfold hex at hb
  rw [List.mem_flatMap] at hb
  obtain ⟨x, _, hx⟩ := hb
  have := x.toNat_lt
  simp only [List.mem_cons, List.mem_nil_iff, or_false] at hx
  rcases hx with rfl | rfl
  · exact ok_dg _ (by omega)
  · exact ok_dg _ (by omega)
theorem good_grp : ∀ l : List UInt8, ∀ b ∈ grp l, good b := by
  intro l b hb
  unfold grp at hb
  split at hb
  · rename_i x
    have := x.toNat_lt
    simp only [List.mem_cons, List.mem_nil_iff, or_false] at hb
    rcases hb with rfl | rfl | rfl | rfl
    · exact ok_al _ (by omega)
    · exact ok_al _ (by omega)
    · exact good_pad
    · exact good_pad
  · rename_i x y
    have := x.toNat_lt
    have := y.toNat_lt
    simp only [List.mem_cons, List.mem_nil_iff, or_false] at hb
    rcases hb with rfl | rfl | rfl | rfl
    · exact ok_al _ (by omega)
    · exact ok_al _ (by omega)
    · exact ok_al _ (by omega)
    · exact good_pad
  · rename_i x y z
    have := x.toNat_lt
    have := y.toNat_lt
    have := z.toNat_lt
    simp only [List.mem_cons, List.mem_nil_iff, or_false] at hb
    rcases hb with rfl | rfl | rfl | rfl
    · exact ok_al _ (by omega)
    · exact ok_al _ (by omega)
    · exact ok_al _ (by omega)
    · exact ok_al _ (by omega)
  · simp at hb
theorem good_b64 : ∀ l : List UInt8, ∀ b ∈ b64 l, good b
  | [], b, hb => by simp [b64] at hb
  | [x], b, hb => by unfold b64 at hb; exact good_grp _ b hb
  | [x, y], b, hb => by unfold b64 at hb; exact good_grp _ b hb
  | x :: y :: z :: t, b, hb => by
    unfold b64 at hb
    rcases List.mem_append.1 hb with h | h
    · exact good_grp _ b h
    · exact good_b64 t b h

theorem safe_x (l : List UInt8) : safe (120 :: l) = l.all okB := by
  unfold safe
  have h1 : okB 120 = true := by decide
  have h2 : mkB 120 = false := by decide
  simp [h1, h2]
theorem all_x1 (l : List UInt8) : (l ++ [32]).all okB = l.all okB := by
  have h1 : okB 32 = true := by decide
  simp [h1]
theorem plain_x (l : List UInt8) : plain ((120 :: l) ++ [32]) = false := by
  unfold plain; rw [List.getLast?_concat]; simp
theorem safe_take (l : List UInt8) (k : Nat) (h : safe l = true) : safe (l.take k) = true := by
  unfold safe at h ⊢
  simp only [Bool.and_eq_true, Bool.not_eq_true'] at h ⊢
  refine ⟨List.all_eq_true.2 fun b hb => List.all_eq_true.1 h.1 b (List.mem_of_mem_take hb), ?_⟩
  cases l with
  | nil => simp
  | cons a t =>
    cases k with
    | zero => rfl
    | succ k => exact h.2
theorem safe_bad (l m : List UInt8) (c : UInt8) (h : okB c = false) : safe (l ++ [c] ++ m) = false := by
  unfold safe
  simp [h]
end Go.Proofs.YthgpinamglpniaaDoor
