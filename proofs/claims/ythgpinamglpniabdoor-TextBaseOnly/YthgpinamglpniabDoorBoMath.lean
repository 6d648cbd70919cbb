import Derived.Test.YthgpinamglpniabDoorUbMath
namespace Go.Proofs.YthgpinamglpniabDoor
namespace TextMath

def isOk : Except Nat (List UInt8) → Bool
  | .ok _ => true
  | .error _ => false
theorem isOk_pre (o : List UInt8) (r : Except Nat (List UInt8)) : isOk (preB o r) = isOk r := by cases r <;> rfl
def ENDS : List (List UInt8) := [[], [61], [65], [65, 65], [65, 65, 65]]
def G (l : List UInt8) : Bool := ENDS.any fun e => isOk (unb (l ++ e) 0)

theorem unb_full (x y z t : UInt8) (r : List UInt8) (k : Nat) (hg : Gd [x, y, z, t] = true) (h : t ≠ 61 ∨ r = []) : unb (x :: y :: z :: t :: r) k = preB (dec [x, y, z, t]) (unb r (k + 4)) := by
  have hf := gF_good x y z t [] hg
  have et : (x :: y :: z :: t :: r).take 4 = [x, y, z, t] := by simp
  have ed : (x :: y :: z :: t :: r).drop 4 = r := by simp
  rw [unb_step _ k (by simp) (by rw [et, hf]; omega), et, ed]
  rintro ⟨h1, h2⟩
  rcases h with h | h
  · exact h (by simpa using h1)
  · subst h; simp at h2
theorem gF_no (l : List UInt8) (j : Nat) (hj : j < 4) (hl : j < l.length) (h : Gd (l.take (j + 1)) = false) : gF (l.take 4) < 4 := by
  have hle := gF_le (l.take 4)
  rcases Nat.lt_or_ge (gF (l.take 4)) 4 with h' | h'
  · exact h'
  · exfalso
    have h4 := gF_four (l.take 4) (by omega)
    have hl4 : 4 ≤ l.length := by have := h4.1; rw [List.length_take] at this; omega
    obtain ⟨x, y, z, t, r, rfl⟩ := four l hl4
    have hg : Gd [x, y, z, t] = true := by simpa using h4.2
    obtain ⟨h1, h2, h3⟩ := Gd_front x y z t hg
    match j, hj with
    | 0, _ => simp at h; rw [h1] at h; cases h
    | 1, _ => simp at h; rw [h2] at h; cases h
    | 2, _ => simp at h; rw [h3] at h; cases h
    | 3, _ => simp at h; rw [hg] at h; cases h
theorem unb_no (l : List UInt8) (k j : Nat) (hj : j < 4) (hl : j < l.length) (h : Gd (l.take (j + 1)) = false) : isOk (unb l k) = false := by
  rw [unb_bad l k (by omega) (gF_no l j hj hl h)]; rfl

theorem not_both {a : Prop} {b : Bool} (h : ¬ (a ∧ b = true)) (ha : a) : b = false := by
  cases b
  · rfl
  · exact absurd ⟨ha, rfl⟩ h
/-- The front that gF tells is good, and the byte behind it, if any, makes it bad. -/
theorem gF_spec (g : List UInt8) (hl : gF g < 4) : Gd (g.take (gF g)) = true ∧ (gF g < g.length → Gd (g.take (gF g + 1)) = false) := by
  unfold gF at hl ⊢
  by_cases h1 : 1 ≤ g.length ∧ Gd (g.take 1) = true
  · rw [if_pos h1] at hl ⊢
    by_cases h2 : 2 ≤ g.length ∧ Gd (g.take 2) = true
    · rw [if_pos h2] at hl ⊢
      by_cases h3 : 3 ≤ g.length ∧ Gd (g.take 3) = true
      · rw [if_pos h3] at hl ⊢
        by_cases h4 : 4 ≤ g.length ∧ Gd (g.take 4) = true
        · rw [if_pos h4] at hl; omega
        · rw [if_neg h4]
          exact ⟨h3.2, fun hh => not_both h4 hh⟩
      · rw [if_neg h3]
        exact ⟨h2.2, fun hh => not_both h3 hh⟩
    · rw [if_neg h2]
      exact ⟨h1.2, fun hh => not_both h2 hh⟩
  · rw [if_neg h1]
    exact ⟨rfl, fun hh => not_both h1 hh⟩

theorem ch_A : ch 65 = true := by decide
/-- A good front goes on to a whole group. -/
theorem front_goes (f : List UInt8) (k : Nat) (hl : f.length < 4) (hg : Gd f = true) : ∃ e ∈ ENDS, isOk (unb (f ++ e) k) = true := by
  match f, hl, hg with
  | [], _, _ => exact ⟨[], by simp [ENDS], rfl⟩
  | [x], _, hg =>
    refine ⟨[65, 65, 65], by simp [ENDS], ?_⟩
    have h : Gd [x, 65, 65, 65] = true := by simp only [Gd] at hg ⊢; simp [hg, ch_A]
    show isOk (unb [x, 65, 65, 65] k) = true
    rw [unb_full x 65 65 65 [] k h (Or.inr rfl), isOk_pre]; rfl
  | [x, y], _, hg =>
    refine ⟨[65, 65], by simp [ENDS], ?_⟩
    have h : Gd [x, y, 65, 65] = true := by simp only [Gd] at hg ⊢; simp [hg, ch_A]
    show isOk (unb [x, y, 65, 65] k) = true
    rw [unb_full x y 65 65 [] k h (Or.inr rfl), isOk_pre]; rfl
  | [x, y, z], _, hg =>
    by_cases hz : z = 61
    · subst hz
      refine ⟨[61], by simp [ENDS], ?_⟩
      have h : Gd [x, y, 61, 61] = true := by
        simp only [Gd, ch_pad, Bool.false_or] at hg ⊢
        simp only [Bool.and_eq_true] at hg
        simp [hg.1.1, hg.1.2, hg.2.2]
      show isOk (unb [x, y, 61, 61] k) = true
      rw [unb_full x y 61 61 [] k h (Or.inr rfl), isOk_pre]; rfl
    · refine ⟨[65], by simp [ENDS], ?_⟩
      have hzc : ch z = true := by
        simp only [Gd, Bool.and_eq_true] at hg
        have := hg.2
        cases h : ch z
        · rw [h] at this; simp at this; exact absurd this.1 hz
        · rfl
      have h : Gd [x, y, z, 65] = true := by
        simp only [Gd, Bool.and_eq_true] at hg ⊢
        simp [hg.1.1, hg.1.2, hzc, ch_A]
      show isOk (unb [x, y, z, 65] k) = true
      rw [unb_full x y z 65 [] k h (Or.inr rfl), isOk_pre]; rfl

theorem place : ∀ (f : Nat) (m : List UInt8) (k p : Nat), m.length ≤ f → unb m k = .error p →
    k ≤ p ∧ p ≤ k + m.length ∧ (∃ e ∈ ENDS, isOk (unb (m.take (p - k) ++ e) k) = true) ∧ (p < k + m.length → ∀ e, isOk (unb (m.take (p - k + 1) ++ e) k) = false)
  | 0, m, k, p, hf, h => by
    have : m = [] := List.eq_nil_of_length_eq_zero (by omega)
    subst this; rw [unb_nil] at h; cases h
  | f + 1, m, k, p, hf, h => by
    by_cases h0 : m.length = 0
    · have : m = [] := List.eq_nil_of_length_eq_zero h0
      subst this; rw [unb_nil] at h; cases h
    · have hle := gF_le (m.take 4)
      rw [List.length_take] at hle
      by_cases hg : gF (m.take 4) < 4
      · rw [unb_bad m k h0 hg] at h; injection h with h; subst h
        obtain ⟨s1, s2⟩ := gF_spec (m.take 4) hg
        generalize hj : gF (m.take 4) = j at *
        have e1 : k + j - k = j := by omega
        rw [e1]
        have t1 : (m.take 4).take j = m.take j := by rw [List.take_take]; congr 1; omega
        rw [t1] at s1
        refine ⟨by omega, by omega, front_goes (m.take j) k (by rw [List.length_take]; omega) s1, fun hp e => ?_⟩
        have t2 : (m.take 4).take (j + 1) = m.take (j + 1) := by rw [List.take_take]; congr 1; omega
        rw [t2] at s2
        have hb := s2 (by rw [List.length_take]; omega)
        refine unb_no _ k j hg (by simp only [List.length_append, List.length_take]; omega) ?_
        rw [List.take_append_of_le_length (by rw [List.length_take]; omega), List.take_take, Nat.min_self]
        exact hb
      · have h4 := gF_four (m.take 4) (by omega)
        have hm4 : 4 ≤ m.length := by have := h4.1; rw [List.length_take] at this; omega
        obtain ⟨x, y, z, c, r, rfl⟩ := four m hm4
        have hgd : Gd [x, y, z, c] = true := by simpa using h4.2
        by_cases h2 : (x :: y :: z :: c :: r).getD 3 0 = 61 ∧ 4 < (x :: y :: z :: c :: r).length
        · rw [unb_behind _ k h0 hg h2] at h; injection h with h; subst h
          have e1 : k + 4 - k = 4 := by omega
          rw [e1]
          have hl5 : 4 < (x :: y :: z :: c :: r).length := h2.2
          refine ⟨by omega, by omega, ⟨[], by simp [ENDS], ?_⟩, fun _ e => ?_⟩
          · show isOk (unb [x, y, z, c] k) = true
            rw [unb_full x y z c [] k hgd (Or.inr rfl), isOk_pre]; rfl
          · have hc : c = 61 := by simpa using h2.1
            match r, hl5 with
            | a :: r', _ =>
              have et : (x :: y :: z :: c :: a :: r').take (4 + 1) ++ e = x :: y :: z :: c :: a :: e := by simp
              rw [et]
              have hf := gF_good x y z c [] hgd
              rw [unb_behind _ k (by simp) (by simp only [List.take]; rw [hf]; omega) ⟨by simpa using hc, by simp⟩]; rfl
        · rw [unb_step _ k h0 hg h2] at h
          have et : (x :: y :: z :: c :: r).take 4 = [x, y, z, c] := by simp
          have ed : (x :: y :: z :: c :: r).drop 4 = r := by simp
          rw [et, ed] at h
          cases hr : unb r (k + 4) with
          | ok q => rw [hr] at h; cases h
          | error q =>
            rw [hr] at h
            simp only [preB] at h
            injection h with h; subst h
            have hc : c ≠ 61 := fun hc => by
              cases r with
              | nil => rw [unb_nil] at hr; cases hr
              | cons a b => exact h2 ⟨by simpa using hc, by simp⟩
            obtain ⟨i1, i2, ⟨e, he, i3⟩, i4⟩ := place f r (k + 4) q (by simp at hf; omega) hr
            have ep : q - k = (q - (k + 4)) + 4 := by omega
            have ep1 : q - k + 1 = (q - (k + 4) + 1) + 4 := by omega
            refine ⟨by omega, by simp; omega, ⟨e, he, ?_⟩, fun hq e' => ?_⟩
            · rw [ep]
              show isOk (unb (x :: y :: z :: c :: (r.take (q - (k + 4)) ++ e)) k) = true
              rw [unb_full x y z c _ k hgd (Or.inl hc), isOk_pre]; exact i3
            · rw [ep1]
              show isOk (unb (x :: y :: z :: c :: (r.take (q - (k + 4) + 1) ++ e')) k) = false
              rw [unb_full x y z c _ k hgd (Or.inl hc), isOk_pre]
              exact i4 (by simp at hq; omega) e'
theorem place_goes (m : List UInt8) (p : Nat) (h : unb m 0 = .error p) : p ≤ m.length ∧ G (m.take p) = true ∧ (p < m.length → G (m.take (p + 1)) = false) := by
  obtain ⟨_, h2, ⟨e, he, h3⟩, h4⟩ := place m.length m 0 p (Nat.le_refl _) h
  rw [Nat.zero_add] at h2 h4
  rw [Nat.sub_zero] at h3 h4
  refine ⟨h2, List.any_eq_true.2 ⟨e, he, h3⟩, fun hp => ?_⟩
  cases hx : G (m.take (p + 1))
  · rfl
  · obtain ⟨e', _, hok⟩ := List.any_eq_true.1 hx
    rw [h4 hp e'] at hok; cases hok
theorem goes_Zm9v : G [90, 109, 57, 118] = true := by decide +kernel
end TextMath
end Go.Proofs.YthgpinamglpniabDoor
