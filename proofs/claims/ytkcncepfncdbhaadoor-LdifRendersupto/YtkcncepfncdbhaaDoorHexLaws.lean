import Derived.Test.YtkcncepfncdbhaaDoorHexMath
import Derived.Test.YtkcncepfncdbhaaDoorNormMath
namespace Go.Proofs.YtkcncepfncdbhaaDoor
namespace TextMath

theorem hex_cons (b : UInt8) (t : List UInt8) : hex (b :: t) = dg (b.toNat / 16) :: dg (b.toNat % 16) :: hex t := by simp [hex]
theorem hex_len (l : List UInt8) : (hex l).length = 2 * l.length := by
  induction l with
  | nil => rfl
  | cons b t ih => rw [hex_cons]; simp [ih]; omega
theorem ofNat_pair (b : UInt8) : UInt8.ofNat (16 * (b.toNat / 16) + b.toNat % 16) = b := by
  have : 16 * (b.toNat / 16) + b.toNat % 16 = b.toNat := Nat.div_add_mod _ _
  rw [this]; simp

/-- Digits in either case of their letters mean the same. -/
theorem unhex_like : ∀ (l : List UInt8) (m : List UInt8) (k : Nat), m.length = (hex l).length → (∀ i, i < m.length → wo (m.getD i 0) = wo ((hex l).getD i 0)) → unhex m k = .ok l
  | [], m, k, h, _ => by
    have : m = [] := List.eq_nil_of_length_eq_zero (by simpa [hex] using h)
    subst this; rfl
  | b :: t, m, k, h, hd => by
    rw [hex_cons] at h hd
    match m, h, hd with
    | x :: y :: r, h, hd =>
      have h0 := hd 0 (by simp)
      have h1 := hd 1 (by simp)
      simp only [List.getD_cons_zero, List.getD_cons_succ] at h0 h1
      have b1 := b.toNat_lt
      rw [wo_dg _ (by omega)] at h0 h1
      rw [unhex_pair x y r k _ _ h0 h1, unhex_like t r (k + 2) (by simpa using h) (fun i hi => by
        have := hd (i + 2) (by simpa using hi)
        simpa using this)]
      rw [ofNat_pair]; rfl
theorem unhex_hex (l : List UInt8) : unhex (hex l) 0 = .ok l := unhex_like l (hex l) 0 rfl fun _ _ => rfl

theorem dg_wo (c : UInt8) (x : Nat) (h : wo c = some x) : dg x = lo c := by
  apply UInt8.toNat_inj.1
  have hx := wo_lt c x h
  rw [dg_toNat x hx, lo_toNat]
  unfold wo at h
  split at h
  · injection h with h; rw [if_pos (by omega), if_neg (by omega)]; omega
  · split at h
    · injection h with h; rw [if_neg (by omega), if_neg (by omega)]; omega
    · split at h
      · injection h with h; rw [if_neg (by omega), if_pos (by omega)]; omega
      · cases h
theorem hex_unhex : ∀ (m : List UInt8) (k : Nat) (t : List UInt8), unhex m k = .ok t → hex t = fold m
  | [], _, t, h => by simp only [unhex] at h; injection h with h; subst h; rfl
  | [a], k, t, h => by
    cases ha : wo a with
    | none => rw [unhex_bad a [] k ha] at h; cases h
    | some x => rw [unhex_odd a k x ha] at h; cases h
  | a :: b :: r, k, t, h => by
    cases ha : wo a with
    | none => rw [unhex_bad a _ k ha] at h; cases h
    | some x =>
      cases hb : wo b with
      | none => rw [unhex_bad2 a b r k x ha hb] at h; cases h
      | some y =>
        rw [unhex_pair a b r k x y ha hb] at h
        cases hr : unhex r (k + 2) with
        | error p => rw [hr] at h; cases h
        | ok q =>
          rw [hr] at h
          simp only [pre] at h
          injection h with h; subst h
          have ih := hex_unhex r (k + 2) q hr
          have hx := wo_lt a x ha
          have hy := wo_lt b y hb
          have e : (UInt8.ofNat (16 * x + y)).toNat = 16 * x + y := by rw [UInt8.toNat_ofNat']; omega
          have e1 : (16 * x + y) / 16 = x := by omega
          have e2 : (16 * x + y) % 16 = y := by omega
          simp only [List.cons_append, List.nil_append]
          rw [hex_cons, e, ih, e1, e2, dg_wo a x ha, dg_wo b y hb]; rfl
/-- The place: digits ahead of it, none at it; at the end of an odd text. -/
theorem unhex_err : ∀ (m : List UInt8) (k p : Nat), unhex m k = .error p → k ≤ p ∧ p ≤ k + m.length ∧ (∀ i, k + i < p → wo (m.getD i 0) ≠ none) ∧ (p = k + m.length → m.length % 2 = 1) ∧ (p < k + m.length → wo (m.getD (p - k) 0) = none)
  | [], _, p, h => by simp only [unhex] at h; cases h
  | [a], k, p, h => by
    cases ha : wo a with
    | none =>
      rw [unhex_bad a [] k ha] at h; injection h with h; subst h
      exact ⟨Nat.le_refl _, by simp, fun i hi => by omega, fun e => by simp at e, fun _ => by simpa using ha⟩
    | some x =>
      rw [unhex_odd a k x ha] at h; injection h with h; subst h
      refine ⟨by omega, by simp, fun i hi => ?_, fun _ => rfl, fun e => by simp at e⟩
      obtain rfl : i = 0 := by omega
      simp [ha]
  | a :: b :: r, k, p, h => by
    cases ha : wo a with
    | none =>
      rw [unhex_bad a _ k ha] at h; injection h with h; subst h
      exact ⟨Nat.le_refl _, by simp, fun i hi => by omega, fun e => by simp at e, fun _ => by simpa using ha⟩
    | some x =>
      cases hb : wo b with
      | none =>
        rw [unhex_bad2 a b r k x ha hb] at h; injection h with h; subst h
        refine ⟨by omega, by simp, fun i hi => ?_, fun e => by simp at e, fun _ => by simpa using hb⟩
        obtain rfl : i = 0 := by omega
        simp [ha]
      | some y =>
        rw [unhex_pair a b r k x y ha hb] at h
        cases hr : unhex r (k + 2) with
        | ok q => rw [hr] at h; cases h
        | error q =>
          rw [hr] at h
          simp only [pre] at h
          injection h with h; subst h
          obtain ⟨h1, h2, h3, h4, h5⟩ := unhex_err r (k + 2) q hr
          refine ⟨by omega, by simp; omega, fun i hi => ?_, fun e => ?_, fun e => ?_⟩
          · match i, hi with
            | 0, _ => simp [ha]
            | 1, _ => simp [hb]
            | i + 2, hi => have := h3 i (by omega); simpa using this
          · have := h4 (by simp at e; omega); simp; omega
          · have := h5 (by simp at e; omega)
            have e2 : q - k = q - (k + 2) + 2 := by omega
            rw [e2]; simpa using this
/-- A digit more. -/
theorem unhex_more : ∀ (m : List UInt8) (k : Nat) (t : List UInt8) (c : UInt8), unhex m k = .ok t → (wo c).isSome = true → unhex (m ++ [c]) k = .error (k + m.length + 1)
  | [], k, t, c, _, hc => by
    obtain ⟨x, hx⟩ := Option.isSome_iff_exists.1 hc
    simp [unhex_odd c k x hx]
  | [a], k, t, c, h, hc => by
    cases ha : wo a with
    | none => rw [unhex_bad a [] k ha] at h; cases h
    | some x => rw [unhex_odd a k x ha] at h; cases h
  | a :: b :: r, k, t, c, h, hc => by
    cases ha : wo a with
    | none => rw [unhex_bad a _ k ha] at h; cases h
    | some x =>
      cases hb : wo b with
      | none => rw [unhex_bad2 a b r k x ha hb] at h; cases h
      | some y =>
        rw [unhex_pair a b r k x y ha hb] at h
        cases hr : unhex r (k + 2) with
        | error p => rw [hr] at h; cases h
        | ok q =>
          simp only [List.cons_append]
          rw [unhex_pair a b _ k x y ha hb, unhex_more r (k + 2) q c hr hc]
          simp only [pre, List.length_cons]
          congr 1; omega
end TextMath
end Go.Proofs.YtkcncepfncdbhaaDoor
