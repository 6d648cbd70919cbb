import Derived.Test.YtgfonnjblbpogaaBhSpV
namespace Go.Proofs.Ytgfonnjblbpogaa
open Go.RowKit
open BerMath (num)
set_option linter.unusedVariables false

theorem ll_mono {a b : Nat} (h : a ≤ b) : ll a ≤ ll b := by
  rcases ll_cases a with ⟨a1, e⟩ | ⟨a1, a2, e⟩ | ⟨a1, a2, a3, e⟩ | ⟨a1, a2, a3, a4, e⟩ | ⟨a1, a2, a3, a4, e⟩ <;>
  rcases ll_cases b with ⟨b1, f⟩ | ⟨b1, b2, f⟩ | ⟨b1, b2, b3, f⟩ | ⟨b1, b2, b3, b4, f⟩ | ⟨b1, b2, b3, b4, f⟩ <;> omega
theorem says_ll {len k : Nat} (h : Says len k) : ll len ≤ k := by
  rcases h with ⟨rfl, h⟩ | ⟨h1, h4, hl⟩
  · rcases ll_cases len with ⟨a1, e⟩ | ⟨a1, a2, e⟩ | ⟨a1, a2, a3, e⟩ | ⟨a1, a2, a3, a4, e⟩ | ⟨a1, a2, a3, a4, e⟩ <;> omega
  · rcases (by omega : k = 1 ∨ k = 2 ∨ k = 3 ∨ k = 4) with rfl | rfl | rfl | rfl <;> simp only [Nat.reducePow] at hl <;>
    rcases ll_cases len with ⟨a1, e⟩ | ⟨a1, a2, e⟩ | ⟨a1, a2, a3, e⟩ | ⟨a1, a2, a3, a4, e⟩ | ⟨a1, a2, a3, a4, e⟩ <;> omega
/-- A header says one length in one form. -/
theorem hdr_inj {c c' : Nat} {m m' : Bool} {t t' len len' k k' : Nat} (h : hdrL c m t len k = hdrL c' m' t' len' k') (s : Says len k) (s' : Says len' k') : len = len' ∧ k = k' := by
  have hk : k = k' := by
    have := congrArg List.length h
    rw [hdrL_len, hdrL_len] at this
    omega
  subst hk
  refine ⟨?_, rfl⟩
  unfold hdrL at h
  injection h with _ h
  rcases s with ⟨rfl, l1⟩ | ⟨h1, h4, l1⟩
  · rcases s' with ⟨_, l2⟩ | ⟨h1, _, _⟩
    · rw [if_pos rfl, if_pos rfl] at h
      injection h with h _
      have := congrArg UInt8.toNat h
      rw [UInt8.toNat_ofNat', UInt8.toNat_ofNat'] at this
      omega
    · omega
  · rcases s' with ⟨h0, l2⟩ | ⟨_, _, l2⟩
    · omega
    · rw [if_neg (by omega), if_neg (by omega)] at h
      injection h with _ h
      rw [← num_beN k len l1, ← num_beN k len' l2, h]
theorem byB_mono {H H' : Nat → List UInt8} (B : Nat → ByteArray) : ∀ (m a : Nat), (∀ j, a ≤ j → j < a + m → (H' j).length ≤ (H j).length) → (outB H' B a m).length ≤ (outB H B a m).length
  | 0, a, h => Nat.le_refl _
  | m + 1, a, h => by
    have ih := byB_mono B m (a + 1) (fun j h1 h2 => h j (by omega) (by omega))
    have h0 := h a (Nat.le_refl _) (by omega)
    rw [outB_cons, outB_cons]
    simp only [List.length_append]
    omega
theorem byB_less {H H' : Nat → List UInt8} (B : Nat → ByteArray) : ∀ (m a : Nat), (∀ j, a ≤ j → j < a + m → (H' j).length ≤ (H j).length) → (∃ j, a ≤ j ∧ j < a + m ∧ (H' j).length < (H j).length) → (outB H' B a m).length < (outB H B a m).length
  | 0, a, h, ⟨j, h1, h2, _⟩ => by omega
  | m + 1, a, h, ⟨j, h1, h2, h3⟩ => by
    have h0 := h a (Nat.le_refl _) (by omega)
    rw [outB_cons, outB_cons]
    simp only [List.length_append]
    by_cases e : j = a
    · subst e
      have ih := byB_mono (H := H) (H' := H') B m (j + 1) (fun j h1 h2 => h j (by omega) (by omega))
      omega
    · have ih := byB_less (H := H) (H' := H') B m (a + 1) (fun j h1 h2 => h j (by omega) (by omega)) ⟨j, by omega, by omega, h3⟩
      omega
theorem outB_same {H H' : Nat → List UInt8} (B : Nat → ByteArray) : ∀ (m a : Nat), (∀ j, a ≤ j → j < a + m → H' j = H j) → outB H' B a m = outB H B a m
  | 0, a, h => rfl
  | m + 1, a, h => by rw [outB_cons, outB_cons, h a (Nat.le_refl _) (by omega), outB_same B m (a + 1) (fun j h1 h2 => h j (by omega) (by omega))]
/-- Two spellings of one tree, the second in the shortest form: no header of it is longer. -/
theorem forms_le {n : Nat} {D C T : Nat → Int} {M : Nat → Bool} {B : Nat → ByteArray} {σ σ' : List Nat} {H H' : Nat → List UInt8} (hX : SpX n 0 D C T M B σ H) (hX' : SpX n 0 D C T M B σ' H') (hS : ∀ j, j < n → ∃ len, H' j = hdrL (C j).toNat (M j) (T j).toNat len (ll len) ∧ len ≤ 67108864) (hB' : ∀ j, j < n → ∃ len k, H' j = hdrL (C j).toNat (M j) (T j).toNat len k ∧ Says len k ∧ k = ll len) :
    ∀ (d j : Nat), n - j ≤ d → j < n → ∃ l1 l2 k2 : Nat, H' j = hdrL (C j).toNat (M j) (T j).toNat l1 (ll l1) ∧ H j = hdrL (C j).toNat (M j) (T j).toNat l2 k2 ∧ Says l1 (ll l1) ∧ Says l2 k2 ∧ l1 ≤ l2 ∧ (M j = true → l1 = byB H' B (j + 1) (idx D (D j + 1) (n - (j + 1)) (j + 1)) ∧ l2 = byB H B (j + 1) (idx D (D j + 1) (n - (j + 1)) (j + 1))) ∧ (M j = false → l1 = l2)
  | 0, j, h1, h2 => by omega
  | d + 1, j, h1, h2 => by
    obtain ⟨l2, k2, q1, q2, q3, q4⟩ := hX.2 j (Nat.zero_le _) h2
    obtain ⟨l1, k1, p1, p2, p3, p4⟩ := hX'.2 j (Nat.zero_le _) h2
    obtain ⟨l1', k1', r1, r2, r3⟩ := hB' j h2
    obtain ⟨e1, e2⟩ := hdr_inj (p1.symm.trans r1) p2 r2
    subst e1 e2 r3
    refine ⟨l1, l2, k2, p1, q1, p2, q2, ?_, fun hM => ⟨p3 hM, q3 hM⟩, fun hM => (p4 hM).trans (q4 hM).symm⟩
    cases hM : M j with
    | false => rw [p4 hM, q4 hM]; exact Nat.le_refl _
    | true =>
      rw [p3 hM, q3 hM]
      have hi := idx_ge D (D j + 1) (n - (j + 1)) (j + 1)
      refine byB_mono B _ _ (fun i i1 i2 => ?_)
      obtain ⟨a1, a2, b2, s1, s2, s3, s4, s5, _⟩ := forms_le hX hX' hS hB' d i (by omega) (by omega)
      rw [s1, s2, hdrL_len, hdrL_len]
      have t1 := ll_mono s5
      have t2 := says_ll s4
      omega
theorem forms_all {n : Nat} {D C T : Nat → Int} {M : Nat → Bool} {B : Nat → ByteArray} {σ σ' : List Nat} {H H' : Nat → List UInt8} {sh : Bool} (hb : bsum B n ≤ 67108864) (hI : SpI n 0 D C T M B σ H) (hI' : SpI n 0 D C T M B σ' H') (hS : ∀ j, j < n → ∃ len, H' j = hdrL (C j).toNat (M j) (T j).toNat len (ll len) ∧ len ≤ 67108864) (hsh : ShI n 0 sh H) :
    (outB H' B 0 n).length ≤ (outB H B 0 n).length ∧ (sh = true → outB H' B 0 n = outB H B 0 n) ∧ (sh = false → outB H' B 0 n ≠ outB H B 0 n) := by
  have hX := hI.2.2.2.2.2.2
  have hX' := hI'.2.2.2.2.2.2
  have hB' : ∀ j, j < n → ∃ len k, H' j = hdrL (C j).toNat (M j) (T j).toNat len k ∧ Says len k ∧ k = ll len := fun j hj => by
    obtain ⟨len, e, hle⟩ := hS j hj
    obtain ⟨l1, k1, p1, p2, p3, p4⟩ := hX'.2 j (Nat.zero_le _) hj
    have hk : k1 = ll len := by
      have := congrArg List.length (p1.symm.trans e)
      rw [hdrL_len, hdrL_len] at this
      omega
    refine ⟨l1, k1, p1, p2, ?_⟩
    have s' : Says len (ll len) := says_wide len (by omega)
    obtain ⟨e1, e2⟩ := hdr_inj (p1.symm.trans e) p2 s'
    rw [e1]
    exact hk
  have hF := fun j hj => forms_le hX hX' hS hB' (n - j) j (Nat.le_refl _) hj
  have hle : ∀ j, 0 ≤ j → j < 0 + n → (H' j).length ≤ (H j).length := fun j _ h2 => by
    obtain ⟨a1, a2, b2, s1, s2, s3, s4, s5, _⟩ := hF j (by omega)
    rw [s1, s2, hdrL_len, hdrL_len]
    have t1 := ll_mono s5
    have t2 := says_ll s4
    omega
  refine ⟨byB_mono B n 0 hle, fun e => ?_, fun e => ?_⟩
  · have hall : ∀ (d j : Nat), n - j ≤ d → j < n → H' j = H j := by
      intro d
      induction d with
      | zero => intro j h1 h2; omega
      | succ d ih =>
        intro j h1 h2
        obtain ⟨a1, a2, b2, s1, s2, s3, s4, s5, s6, s7⟩ := hF j h2
        obtain ⟨c, m, t, len, u1, u2⟩ := hsh.1 e j (Nat.zero_le _) h2
        obtain ⟨v1, v2⟩ := hdr_inj (s2.symm.trans u1) s4 u2
        subst v1 v2
        have el : a1 = a2 := by
          cases hM : M j with
          | false => exact s7 hM
          | true =>
            rw [(s6 hM).1, (s6 hM).2]
            have hi := idx_ge D (D j + 1) (n - (j + 1)) (j + 1)
            unfold byB
            rw [outB_same (H := H) (H' := H') B _ (j + 1) (fun i i1 i2 => ih i (by omega) (by omega))]
        rw [s1, s2, el]
    exact outB_same B n 0 (fun j _ h2 => hall (n - j) j (Nat.le_refl _) (by omega))
  · obtain ⟨j, h1, h2, c, m, t, len, k, u1, u2, u3⟩ := hsh.2 e
    intro hc
    have := byB_less (H := H) (H' := H') B n 0 hle ⟨j, h1, by omega, by
      obtain ⟨a1, a2, b2, s1, s2, s3, s4, s5, _⟩ := hF j h2
      obtain ⟨v1, v2⟩ := hdr_inj (s2.symm.trans u1) s4 u2
      subst v1 v2
      rw [s1, s2, hdrL_len, hdrL_len]
      have t1 := ll_mono s5
      omega⟩
    rw [hc] at this
    omega
end Go.Proofs.Ytgfonnjblbpogaa
