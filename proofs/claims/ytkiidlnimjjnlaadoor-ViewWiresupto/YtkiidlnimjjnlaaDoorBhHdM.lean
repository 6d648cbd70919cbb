import Derived.Test.YtkiidlnimjjnlaaDoorBhNodes
namespace Go.Proofs.YtkiidlnimjjnlaaDoor
open Go.RowKit
open BerMath (Hd HR num hAt)
set_option linter.unusedVariables false

/-- A number's last k bytes, the highest first. -/
def beN : Nat → Nat → List UInt8
  | 0, _ => []
  | k + 1, n => beN k (n / 256) ++ [UInt8.ofNat (n % 256)]
theorem beN_len : ∀ k n, (beN k n).length = k
  | 0, _ => rfl
  | k + 1, n => by simp [beN, beN_len k]
theorem num_beN : ∀ k n, n < 256 ^ k → num 0 (beN k n) = n
  | 0, n, h => by
    have : n = 0 := by simpa using h
    subst this
    rfl
  | k + 1, n, h => by
    rw [beN, BerMath.num_snoc, num_beN k (n / 256) (by rw [Nat.pow_succ] at h; exact Nat.div_lt_of_lt_mul (by rw [Nat.mul_comm]; exact h)), UInt8.toNat_ofNat', Nat.mod_eq_of_lt (a := n % 256) (by omega)]
    omega
/-- A header in the form with k bytes behind its length byte. -/
def hdrL (c : Nat) (m : Bool) (t len k : Nat) : List UInt8 := fb c m t :: (if k = 0 then [UInt8.ofNat len] else UInt8.ofNat (128 + k) :: beN k len)
theorem hdrL_len (c : Nat) (m : Bool) (t len k : Nat) : (hdrL c m t len k).length = 2 + k := by
  unfold hdrL
  split
  · rename_i h
    subst h
    rfl
  · simp [beN_len]
    omega
/-- Can k bytes say the length? -/
def Says (len k : Nat) : Prop := (k = 0 ∧ len < 128) ∨ (1 ≤ k ∧ k ≤ 4 ∧ len < 256 ^ k)
theorem fb_parts (c : Nat) (m : Bool) (t : Nat) (hc : c ≤ 3) (ht : t ≤ 30) : (fb c m t).toNat / 64 = c ∧ (fb c m t).toNat % 32 = t ∧ decide ((fb c m t).toNat / 32 % 2 = 1) = m := by
  have h := fb_n c m t hc ht
  have h' : (fb c m t).toNat = c * 64 + (if m then 32 else 0) + t := by
    cases m <;> simp at h ⊢ <;> omega
  rw [h']
  cases m
  · simp only [Bool.false_eq_true, if_false]
    exact ⟨by omega, by omega, decide_eq_false (by omega)⟩
  · simp only [if_true]
    exact ⟨by omega, by omega, decide_eq_true (by omega)⟩
theorem hAt_hdr (c : Nat) (m : Bool) (t len k : Nat) (rest : List UInt8) (e : Nat) (hc : c ≤ 3) (ht : t ≤ 30) (hs : Says len k) (he : 2 + k ≤ e) : hAt (hdrL c m t len k ++ rest) 0 e = .ok ⟨c, m, t, len, 2 + k⟩ := by
  obtain ⟨f1, f2, f3⟩ := fb_parts c m t hc ht
  have g0 : (hdrL c m t len k ++ rest).getD 0 0 = fb c m t := rfl
  unfold hAt
  rw [g0, f1, f2, f3, if_neg (by omega), if_neg (by omega), if_neg (by omega)]
  rcases hs with ⟨rfl, hl⟩ | ⟨h1, h4, hl⟩
  · have g1 : ((hdrL c m t len 0 ++ rest).getD (0 + 1) 0).toNat = len := by
      show (UInt8.ofNat len).toNat = len
      rw [UInt8.toNat_ofNat']
      omega
    rw [g1, if_neg (by omega), if_neg (by omega), if_pos (by omega)]
  · have e1 : hdrL c m t len k = fb c m t :: UInt8.ofNat (128 + k) :: beN k len := by unfold hdrL; rw [if_neg (by omega)]
    have g1 : ((hdrL c m t len k ++ rest).getD (0 + 1) 0).toNat = 128 + k := by
      rw [e1]
      show (UInt8.ofNat (128 + k)).toNat = _
      rw [UInt8.toNat_ofNat']
      omega
    rw [g1, if_neg (by omega), if_neg (by omega), if_neg (by omega), if_neg (by omega)]
    have g2 : ((hdrL c m t len k ++ rest).drop (0 + 2)).take (128 + k - 128) = beN k len := by
      rw [e1]
      show (beN k len ++ rest).take (128 + k - 128) = _
      have : 128 + k - 128 = (beN k len).length := by rw [beN_len]; omega
      rw [this, List.take_left]
    rw [g2, num_beN k len hl]
    have : 128 + k - 126 = 2 + k := by omega
    rw [this]
theorem hAt_cut (c : Nat) (m : Bool) (t len k : Nat) (rest : List UInt8) (cut : Nat) (hc : c ≤ 3) (ht : t ≤ 30) (hs : Says len k) (he : cut < 2 + k) : hAt ((hdrL c m t len k ++ rest).take cut) 0 cut = HR.miss := by
  obtain ⟨f1, f2, f3⟩ := fb_parts c m t hc ht
  unfold hAt
  by_cases h0 : cut ≤ 0
  · rw [if_pos h0]
  · rw [if_neg h0]
    have g0 : ((hdrL c m t len k ++ rest).take cut).getD 0 0 = fb c m t := by
      obtain ⟨q, rfl⟩ : ∃ q, cut = q + 1 := ⟨cut - 1, by omega⟩
      rfl
    rw [g0, f2, if_neg (by omega)]
    by_cases h1 : cut ≤ 0 + 1
    · rw [if_pos h1]
    · rw [if_neg h1]
      obtain ⟨q, rfl⟩ : ∃ q, cut = q + 2 := ⟨cut - 2, by omega⟩
      rcases hs with ⟨rfl, hl⟩ | ⟨h1', h4, hl⟩
      · omega
      · have e1 : hdrL c m t len k = fb c m t :: UInt8.ofNat (128 + k) :: beN k len := by unfold hdrL; rw [if_neg (by omega)]
        have g1 : (((hdrL c m t len k ++ rest).take (q + 2)).getD (0 + 1) 0).toNat = 128 + k := by
          rw [e1]
          show (UInt8.ofNat (128 + k)).toNat = _
          rw [UInt8.toNat_ofNat']
          omega
        rw [g1, if_neg (by omega), if_neg (by omega), if_neg (by omega), if_pos (by omega)]
/-- A header with its content's bytes, cut at or behind its own end. -/
theorem hAt_front (c : Nat) (m : Bool) (t len k : Nat) (rest : List UInt8) (cut : Nat) (hc : c ≤ 3) (ht : t ≤ 30) (hs : Says len k) (he : 2 + k ≤ cut) : hAt ((hdrL c m t len k ++ rest).take cut) 0 cut = .ok ⟨c, m, t, len, 2 + k⟩ := by
  have e : (hdrL c m t len k ++ rest).take cut = hdrL c m t len k ++ rest.take (cut - (2 + k)) := by
    rw [List.take_append, hdrL_len, List.take_of_length_le (by rw [hdrL_len]; exact he)]
  rw [e]
  exact hAt_hdr c m t len k _ cut hc ht hs he
end Go.Proofs.YtkiidlnimjjnlaaDoor
