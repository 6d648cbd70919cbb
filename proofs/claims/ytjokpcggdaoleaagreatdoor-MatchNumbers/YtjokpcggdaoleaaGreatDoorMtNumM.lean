import Derived.Test.YtjokpcggdaoleaaGreatDoorMtLngL
import Derived.Lib.ItoaNum
namespace Go.Proofs.YtjokpcggdaoleaaGreatDoor
namespace MtNumM
set_option linter.unusedVariables false

/-- What digits spell behind a number. -/
def vl (acc : Nat) : List UInt8 → Nat
  | [] => acc
  | c :: r => vl (acc * 10 + (c.toNat - 48)) r
theorem vl_app : ∀ (l : List UInt8) (acc : Nat) (c : UInt8), vl acc (l ++ [c]) = vl acc l * 10 + (c.toNat - 48)
  | [], acc, c => rfl
  | d :: r, acc, c => vl_app r _ c
theorem vl_ge : ∀ (l : List UInt8) (acc : Nat), acc * 10 ^ l.length ≤ vl acc l
  | [], acc => by rw [List.length_nil, Nat.pow_zero, Nat.mul_one]; exact Nat.le_refl _
  | c :: r, acc => by
    have ih := vl_ge r (acc * 10 + (c.toNat - 48))
    rw [List.length_cons, Nat.pow_succ]
    have e : acc * (10 ^ r.length * 10) = (acc * 10) * 10 ^ r.length := by rw [Nat.mul_assoc, Nat.mul_comm 10]
    rw [e]
    exact Nat.le_trans (Nat.mul_le_mul_right _ (by omega)) ih
theorem vl_lt : ∀ (l : List UInt8) (acc : Nat), dig l → vl acc l < (acc + 1) * 10 ^ l.length
  | [], acc, _ => by rw [List.length_nil, Nat.pow_zero, Nat.mul_one]; exact Nat.lt_succ_self _
  | c :: r, acc, h => by
    have hc := h c (by simp)
    have ih := vl_lt r (acc * 10 + (c.toNat - 48)) (fun x hx => h x (by simp [hx]))
    rw [List.length_cons, Nat.pow_succ]
    have e : (acc + 1) * (10 ^ r.length * 10) = ((acc + 1) * 10) * 10 ^ r.length := by rw [Nat.mul_assoc, Nat.mul_comm 10]
    rw [e]
    exact Nat.lt_of_lt_of_le ih (Nat.mul_le_mul_right _ (by omega))
theorem vl_self : ∀ (l : List UInt8) (acc : Nat), acc ≤ vl acc l := fun l acc => Nat.le_trans (by have : 1 ≤ 10 ^ l.length := Nat.one_le_pow _ _ (by decide); exact Nat.le_mul_of_pos_right acc this) (vl_ge l acc)
def sg (u v : Nat) : Int := if u < v then -1 else if v < u then 1 else 0
theorem cmp_eq : ∀ (a b : List UInt8) (acc : Nat), a.length = b.length → dig a → dig b → Lib.compareBytes a b = sg (vl acc a) (vl acc b)
  | [], [], acc, _, _, _ => by unfold sg; show (0 : Int) = if acc < acc then -1 else if acc < acc then 1 else 0; rw [if_neg (Nat.lt_irrefl _), if_neg (Nat.lt_irrefl _)]
  | [], _ :: _, _, h, _, _ => by simp at h
  | _ :: _, [], _, h, _, _ => by simp at h
  | c :: a, d :: b, acc, h, ha, hb => by
    have hc := ha c (by simp)
    have hd := hb d (by simp)
    have hl : a.length = b.length := by simpa using h
    have ha' : dig a := fun x hx => ha x (by simp [hx])
    have hb' : dig b := fun x hx => hb x (by simp [hx])
    unfold Lib.compareBytes
    show _ = sg (vl (acc * 10 + (c.toNat - 48)) a) (vl (acc * 10 + (d.toNat - 48)) b)
    by_cases h1 : c < d
    · have h1' : c.toNat < d.toNat := UInt8.lt_iff_toNat_lt.1 h1
      rw [if_pos h1]
      have l1 := vl_lt a (acc * 10 + (c.toNat - 48)) ha'
      have l2 := vl_ge b (acc * 10 + (d.toNat - 48))
      have l3 : (acc * 10 + (c.toNat - 48) + 1) * 10 ^ a.length ≤ (acc * 10 + (d.toNat - 48)) * 10 ^ b.length := by rw [hl]; exact Nat.mul_le_mul_right _ (by omega)
      unfold sg
      rw [if_pos (by omega)]
    · rw [if_neg h1]
      by_cases h2 : d < c
      · have h2' : d.toNat < c.toNat := UInt8.lt_iff_toNat_lt.1 h2
        rw [if_pos h2]
        have l1 := vl_lt b (acc * 10 + (d.toNat - 48)) hb'
        have l2 := vl_ge a (acc * 10 + (c.toNat - 48))
        have l3 : (acc * 10 + (d.toNat - 48) + 1) * 10 ^ b.length ≤ (acc * 10 + (c.toNat - 48)) * 10 ^ a.length := by rw [hl]; exact Nat.mul_le_mul_right _ (by omega)
        unfold sg
        rw [if_neg (by omega), if_pos (by omega)]
      · rw [if_neg h2]
        have e : c.toNat = d.toNat := by
          have h1' : ¬ c.toNat < d.toNat := fun h => h1 (UInt8.lt_iff_toNat_lt.2 h)
          have h2' : ¬ d.toNat < c.toNat := fun h => h2 (UInt8.lt_iff_toNat_lt.2 h)
          omega
        rw [e]
        exact cmp_eq a b _ hl ha' hb'
theorem of_dig (u : Nat) (h : u < 10) : (UInt8.ofNat (48 + u)).toNat = 48 + u := by
  rw [UInt8.toNat_ofNat']
  omega
theorem dec_dig (u : Nat) : dig (Lib.decDigits u) := by
  induction u using Nat.strongRecOn with
  | _ u ih =>
    rw [Lib.decDigits]
    split
    · rename_i h
      intro c hc
      rw [List.mem_singleton.1 hc, of_dig u h]
      omega
    · rename_i h
      refine dig_app (ih (u / 10) (by omega)) ?_
      intro c hc
      rw [List.mem_singleton.1 hc, of_dig (u % 10) (by omega)]
      omega
theorem dec_vl (u : Nat) : vl 0 (Lib.decDigits u) = u := by
  induction u using Nat.strongRecOn with
  | _ u ih =>
    rw [Lib.decDigits]
    split
    · rename_i h
      show 0 * 10 + ((UInt8.ofNat (48 + u)).toNat - 48) = u
      rw [of_dig u h]
      omega
    · rename_i h
      rw [vl_app, ih (u / 10) (by omega), of_dig (u % 10) (by omega)]
      omega
theorem dec_head (u : Nat) (h0 : 1 ≤ u) : ∃ c r, Lib.decDigits u = c :: r ∧ ¬ c = 48 := by
  induction u using Nat.strongRecOn with
  | _ u ih =>
    rw [Lib.decDigits]
    split
    · rename_i h
      refine ⟨_, _, rfl, fun e => ?_⟩
      have := of_dig u h
      rw [e] at this
      have e2 : (48 : UInt8).toNat = 48 := rfl
      omega
    · rename_i h
      obtain ⟨c, r, e, hc⟩ := ih (u / 10) (by omega) (by omega)
      exact ⟨c, r ++ [UInt8.ofNat (48 + u % 10)], by rw [e]; rfl, hc⟩
theorem dec_zero : Lib.decDigits 0 = [48] := by rw [Lib.decDigits_one (by decide)]; rfl
theorem pow_le (u : Nat) (h : ¬ u < 10) : 10 ^ (Lib.nDigits u - 1) ≤ u := by
  induction u using Nat.strongRecOn with
  | _ u ih =>
    rw [Lib.nDigits_big h]
    by_cases h1 : u / 10 < 10
    · rw [Lib.nDigits_small h1]
      show 10 ^ 1 ≤ u
      omega
    · have := ih (u / 10) (by omega) h1
      have hp := Lib.nDigits_pos (u / 10)
      rw [show Lib.nDigits (u / 10) + 1 - 1 = (Lib.nDigits (u / 10) - 1) + 1 by omega, Nat.pow_succ]
      omega
theorem lt_of_digits (u v : Nat) (h : Lib.nDigits u < Lib.nDigits v) : u < v := by
  have hv : ¬ v < 10 := fun hv => by
    rw [Lib.nDigits_small hv] at h
    have := Lib.nDigits_pos u
    omega
  have h1 := Lib.lt_pow_nDigits u
  have h2 := pow_le v hv
  have h3 : 10 ^ Lib.nDigits u ≤ 10 ^ (Lib.nDigits v - 1) := Nat.pow_le_pow_right (by decide) (by omega)
  omega
theorem cmpN_dec (u v : Nat) : cmpN (Lib.decDigits u) (Lib.decDigits v) = sg u v := by
  rcases Nat.lt_trichotomy (Lib.nDigits u) (Lib.nDigits v) with h | h | h
  · rw [cmpN_down _ _ (by rw [Lib.decDigits_length, Lib.decDigits_length]; exact h)]
    have := lt_of_digits u v h
    unfold sg
    rw [if_pos this]
  · have hc := cmp_eq (Lib.decDigits u) (Lib.decDigits v) 0 (by rw [Lib.decDigits_length, Lib.decDigits_length]; exact h) (dec_dig u) (dec_dig v)
    rw [dec_vl, dec_vl] at hc
    unfold cmpN
    rw [Lib.decDigits_length, Lib.decDigits_length, h, hc]
    have : Lib.compareInt (Lib.nDigits v : Int) (Lib.nDigits v : Int) = 0 := by
      unfold Lib.compareInt
      rw [if_neg (by omega), if_neg (by omega)]
    rw [this]
    rfl
  · rw [cmpN_up _ _ (by rw [Lib.decDigits_length, Lib.decDigits_length]; exact h)]
    have := lt_of_digits v u h
    unfold sg
    rw [if_neg (by omega), if_pos this]
theorem dec_cons (u : Nat) : ∃ c r, Lib.decDigits u = c :: r ∧ ¬ c = 45 ∧ ¬ c = 43 := by
  have hl := Lib.decDigits_length u
  have hp := Lib.nDigits_pos u
  have hd := dec_dig u
  cases e : Lib.decDigits u with
  | nil => rw [e] at hl; simp at hl; omega
  | cons c r =>
    rw [e] at hd
    exact ⟨c, r, rfl, dig_ne c (hd c (by simp))⟩
theorem itoa_ok (x : Int) : intOk (Lib.itoa x) = true := by
  unfold Lib.itoa
  split
  · rename_i h
    obtain ⟨c, r, e, hc⟩ := dec_head x.natAbs (by omega)
    have hd := dec_dig x.natAbs
    rw [e] at hd ⊢
    exact int_neg c r hc hd
  · rename_i h
    by_cases h0 : x.toNat = 0
    · rw [h0, dec_zero]; rfl
    · obtain ⟨c, r, e, hc⟩ := dec_head x.toNat (by omega)
      have hd := dec_dig x.toNat
      rw [e] at hd ⊢
      exact int_ok c r hc hd
theorem cmpI_np (c : UInt8) (a b : List UInt8) (hc : ¬ c = 45) : cmpI (45 :: a) (c :: b) = -1 := by
  unfold cmpI
  rw [(pre_yes a).1, (pre_no c b hc).1]
  rfl
theorem cmpI_itoa (x y : Int) : cmpI (Lib.itoa x) (Lib.itoa y) = Lib.compareInt x y := by
  unfold Lib.itoa Lib.compareInt
  by_cases hx : x < 0 <;> by_cases hy : y < 0
  · rw [if_pos hx, if_pos hy, cmpI_nn, cmpN_dec]
    unfold sg
    by_cases h1 : x < y
    · rw [if_pos h1, if_pos (by omega)]
    · rw [if_neg h1, if_neg (by omega)]
      by_cases h2 : x > y
      · rw [if_pos h2, if_pos (by omega)]
      · rw [if_neg h2, if_neg (by omega)]
  · obtain ⟨c, r, e, hc, _⟩ := dec_cons y.toNat
    rw [if_pos hx, if_neg hy, e, cmpI_np c _ _ hc, if_pos (by omega)]
  · obtain ⟨c, r, e, hc, _⟩ := dec_cons x.toNat
    rw [if_neg hx, if_pos hy, e, cmpI_pn c _ _ hc, if_neg (by omega), if_pos (by omega)]
  · obtain ⟨c, r, e, hc, _⟩ := dec_cons x.toNat
    obtain ⟨d, s, e2, hd, _⟩ := dec_cons y.toNat
    rw [if_neg hx, if_neg hy, e, e2, cmpI_pp c d _ _ hc hd, ← e, ← e2, cmpN_dec]
    unfold sg
    by_cases h1 : x < y
    · rw [if_pos h1, if_pos (by omega)]
    · rw [if_neg h1, if_neg (by omega)]
      by_cases h2 : x > y
      · rw [if_pos h2, if_pos (by omega)]
      · rw [if_neg h2, if_neg (by omega)]
theorem near_M : ∀ (l : List UInt8) (acc : Nat), dig l → vl acc l ≤ 18446744073709551615 → Lib.parseUintM 18446744073709551615 acc l = .ok (vl acc l)
  | [], acc, _, _ => rfl
  | c :: r, acc, hd, h => by
    have hc := hd c (by simp)
    have h' : vl (acc * 10 + (c.toNat - 48)) r ≤ 18446744073709551615 := h
    have hs := vl_self r (acc * 10 + (c.toNat - 48))
    unfold Lib.parseUintM
    rw [if_pos hc, if_neg (by omega), if_neg (by omega)]
    exact near_M r _ (fun x hx => hd x (by simp [hx])) h'
theorem uint_dec (u : Nat) (h : u ≤ 18446744073709551615) : Lib.parseUintB 64 (Lib.decDigits u) = .ok u := by
  obtain ⟨c, r, e, _⟩ := dec_cons u
  unfold Lib.parseUintB
  rw [if_neg (by rw [e]; simp)]
  have := near_M (Lib.decDigits u) 0 (dec_dig u) (by rw [dec_vl]; exact h)
  rw [dec_vl] at this
  exact this
theorem parse_itoa (x : Int) (h0 : -9223372036854775808 ≤ x) (h1 : x ≤ 9223372036854775807) : Lib.parseIntB 64 (Lib.itoa x) = .ok x := by
  unfold Lib.itoa
  split
  · rename_i h
    rw [Lib.parseIntB_minus, uint_dec _ (by omega)]
    unfold Lib.signedC
    show (if _ then _ else _) = _
    rw [if_neg (by omega)]
    congr 1
    omega
  · rename_i h
    obtain ⟨c, r, e, h45, h43⟩ := dec_cons x.toNat
    have hc1 : c.toNat ≠ 43 := fun hh => h43 (UInt8.toNat_inj.1 hh)
    have hc2 : c.toNat ≠ 45 := fun hh => h45 (UInt8.toNat_inj.1 hh)
    rw [e, Lib.parseIntB_plain 64 c r hc1 hc2, ← e, uint_dec _ (by omega)]
    unfold Lib.signlessC
    show (if _ then _ else _) = _
    rw [if_neg (by omega)]
    congr 1
    omega
theorem itoa_inj (x y : Int) (h0 : -9223372036854775808 ≤ x) (h1 : x ≤ 9223372036854775807) (k0 : -9223372036854775808 ≤ y) (k1 : y ≤ 9223372036854775807) : Lib.itoa x = Lib.itoa y ↔ x = y := by
  refine ⟨fun e => ?_, fun e => by rw [e]⟩
  have a := parse_itoa x h0 h1
  have b := parse_itoa y k0 k1
  rw [e, b] at a
  injection a with a
  exact a.symm
end MtNumM
end Go.Proofs.YtjokpcggdaoleaaGreatDoor
