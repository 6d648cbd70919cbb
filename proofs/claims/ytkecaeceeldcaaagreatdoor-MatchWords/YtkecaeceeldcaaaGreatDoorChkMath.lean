namespace Go.Proofs.YtkecaeceeldcaaaGreatDoor
namespace TextMath

def u (b : UInt8) : Int := (b.toNat : Int)

def ld (b : Int) : Int × Int × Int :=
  if b ≤ 127 then (1, 0, 0) else if b < 194 then (0, 0, 0) else if b ≤ 223 then (2, 128, 191)
  else if b = 224 then (3, 160, 191) else if b = 237 then (3, 128, 159) else if b ≤ 239 then (3, 128, 191)
  else if b = 240 then (4, 144, 191) else if b ≤ 243 then (4, 128, 191) else if b = 244 then (4, 128, 143) else (0, 0, 0)

def wi (b lo hi : Int) : Bool := decide (lo ≤ b) && decide (b ≤ hi)

def seqLen (l : List UInt8) : Nat :=
  let n := (ld (u (l.getD 0 0))).1
  if (l.length : Int) < n then 0
  else if n = 4 ∧ wi (u (l.getD 3 0)) 128 191 = false then 0
  else if (n = 4 ∨ n = 3) ∧ wi (u (l.getD 2 0)) 128 191 = false then 0
  else if (n = 4 ∨ n = 3 ∨ n = 2) ∧ wi (u (l.getD 1 0)) (ld (u (l.getD 0 0))).2.1 (ld (u (l.getD 0 0))).2.2 = false then 0
  else n.toNat

theorem ld_cases (b : Int) : (ld b).1 = 0 ∨ (ld b).1 = 1 ∨ (ld b).1 = 2 ∨ (ld b).1 = 3 ∨ (ld b).1 = 4 := by
  unfold ld; repeat' split
  all_goals simp

theorem seqLen_le (l : List UInt8) : seqLen l ≤ l.length := by
  unfold seqLen; simp only []
  repeat' split
  all_goals omega

theorem seqLen_le4 (l : List UInt8) : seqLen l ≤ 4 := by
  have := ld_cases (u (l.getD 0 0))
  unfold seqLen; simp only []
  repeat' split
  all_goals omega

theorem getD_app (l b : List UInt8) (i : Nat) (h : i < l.length) : (l ++ b).getD i 0 = l.getD i 0 := by
  simp [List.getD, List.getElem?_append_left h]

theorem getD_take (l : List UInt8) (m i : Nat) (h : i < m) : (l.take m).getD i 0 = l.getD i 0 := by
  simp [List.getD, List.getElem?_take_of_lt h]

/-- The sequence hangs on its own bytes alone. -/
theorem seqLen_congr (l k : List UInt8) (h0 : k.getD 0 0 = l.getD 0 0) (n : Nat) (hn : seqLen l = n) (hp : 0 < n) (hl : n ≤ k.length)
    (h : ∀ i, i < n → k.getD i 0 = l.getD i 0) : seqLen k = n := by
  have hc := ld_cases (u (l.getD 0 0))
  have hle := seqLen_le l
  unfold seqLen at hn ⊢
  simp only [h0] at hn ⊢
  generalize (ld (u (l.getD 0 0))) = q at *
  obtain ⟨m, lo, hi⟩ := q
  simp only [] at hc hn ⊢
  rcases hc with rfl | rfl | rfl | rfl | rfl
  · simp at hn; omega
  · have hnn : n = 1 := by
      repeat' split at hn
      all_goals simp_all
    subst hnn
    simp; omega
  · have hnn : n = 2 := by
      repeat' split at hn
      all_goals simp_all
    subst hnn
    have h1 := h 1 (by omega)
    simp only [h1]
    simp at hn ⊢
    repeat' split at hn
    all_goals simp_all
    all_goals omega
  · have hnn : n = 3 := by
      repeat' split at hn
      all_goals simp_all
    subst hnn
    have h1 := h 1 (by omega)
    have h2 := h 2 (by omega)
    simp only [h1, h2]
    simp at hn ⊢
    repeat' split at hn
    all_goals simp_all
    all_goals omega
  · have hnn : n = 4 := by
      repeat' split at hn
      all_goals simp_all
    subst hnn
    have h1 := h 1 (by omega)
    have h2 := h 2 (by omega)
    have h3 := h 3 (by omega)
    simp only [h1, h2, h3]
    simp at hn ⊢
    repeat' split at hn
    all_goals simp_all
    all_goals omega

theorem seqLen_app (l b : List UInt8) (hp : 0 < seqLen l) : seqLen (l ++ b) = seqLen l := by
  have hle := seqLen_le l
  exact seqLen_congr l (l ++ b) (getD_app l b 0 (by omega)) _ rfl hp (by simp; omega) fun i hi => getD_app l b i (by omega)

theorem seqLen_take (l : List UInt8) (m : Nat) (hm : seqLen l ≤ m) (hp : 0 < seqLen l) : seqLen (l.take m) = seqLen l := by
  have hle := seqLen_le l
  exact seqLen_congr l (l.take m) (getD_take l m 0 (by omega)) _ rfl hp (by simp; omega) fun i hi => getD_take l m i (by omega)

theorem seqLen_zero_app (l b : List UInt8) (h4 : 4 ≤ l.length) (h0 : seqLen l = 0) : seqLen (l ++ b) = 0 := by
  have hc := ld_cases (u (l.getD 0 0))
  unfold seqLen at h0 ⊢
  simp only [getD_app l b 0 (by omega), getD_app l b 1 (by omega), getD_app l b 2 (by omega), getD_app l b 3 (by omega)] at h0 ⊢
  generalize (ld (u (l.getD 0 0))) = q at *
  obtain ⟨m, lo, hi⟩ := q
  simp only [] at hc h0 ⊢
  have e1 : ¬ (l.length : Int) < m := by omega
  have e2 : ¬ ((l ++ b).length : Int) < m := by simp; omega
  rw [if_neg e1] at h0
  rw [if_neg e2]
  exact h0

/-- Check, by the text that is left. -/
def chk : Nat → List UInt8 → Bool × Nat
  | 0, _ => (true, 0)
  | f + 1, l => if l.length = 0 then (true, 0) else if seqLen l = 0 then (false, 0) else ((chk f (l.drop (seqLen l))).1, seqLen l + (chk f (l.drop (seqLen l))).2)

theorem chk_fuel : ∀ (f g : Nat) (l : List UInt8), l.length ≤ f → l.length ≤ g → chk f l = chk g l
  | 0, 0, _, _, _ => rfl
  | 0, g + 1, l, h, _ => by simp [chk, Nat.le_zero.1 h]
  | f + 1, 0, l, _, h => by simp [chk, Nat.le_zero.1 h]
  | f + 1, g + 1, l, hf, hg => by
    unfold chk
    by_cases h0 : l.length = 0
    · simp [h0]
    · by_cases h1 : seqLen l = 0
      · simp [h1]
      · rw [if_neg h0, if_neg h1, if_neg h0, if_neg h1, chk_fuel f g (l.drop (seqLen l)) (by simp; omega) (by simp; omega)]

def check (l : List UInt8) : Bool × Nat := chk l.length l

theorem check_nil : check [] = (true, 0) := rfl
theorem check_bad (l : List UInt8) (h0 : l.length ≠ 0) (h : seqLen l = 0) : check l = (false, 0) := by
  unfold check
  obtain ⟨n, hn⟩ := Nat.exists_eq_succ_of_ne_zero h0
  rw [hn]; unfold chk; rw [if_neg h0, if_pos h]
theorem check_good (l : List UInt8) (h : seqLen l ≠ 0) : check l = ((check (l.drop (seqLen l))).1, seqLen l + (check (l.drop (seqLen l))).2) := by
  have h0 : l.length ≠ 0 := by have := seqLen_le l; omega
  obtain ⟨n, hn⟩ := Nat.exists_eq_succ_of_ne_zero h0
  have e : check l = chk (n + 1) l := by unfold check; rw [hn]
  rw [e]; unfold chk; rw [if_neg h0, if_neg h]
  have e2 : chk n (l.drop (seqLen l)) = check (l.drop (seqLen l)) := chk_fuel _ _ _ (by simp; omega) (by simp)
  rw [e2]

theorem check_ind {M : List UInt8 → Prop} (h0 : M []) (h1 : ∀ l, l.length ≠ 0 → seqLen l = 0 → M l) (h2 : ∀ l, seqLen l ≠ 0 → M (l.drop (seqLen l)) → M l) : ∀ (n : Nat) (l : List UInt8), l.length ≤ n → M l
  | 0, l, h => by
    have : l = [] := List.eq_nil_of_length_eq_zero (by omega)
    subst this; exact h0
  | n + 1, l, h => by
    by_cases e : l.length = 0
    · have : l = [] := List.eq_nil_of_length_eq_zero e
      subst this; exact h0
    · by_cases e1 : seqLen l = 0
      · exact h1 l e e1
      · exact h2 l e1 (check_ind h0 h1 h2 n _ (by simp; omega))

theorem check_place (l : List UInt8) : (check l).2 ≤ l.length ∧ ((check l).1 = true → (check l).2 = l.length) ∧ ((check l).1 = false → (check l).2 < l.length) := by
  refine check_ind (M := fun l => (check l).2 ≤ l.length ∧ ((check l).1 = true → (check l).2 = l.length) ∧ ((check l).1 = false → (check l).2 < l.length)) ?_ ?_ ?_ l.length l (Nat.le_refl _)
  · simp [check_nil]
  · intro l h0 h1
    rw [check_bad l h0 h1]; simp; omega
  · intro l h1 ih
    have hle := seqLen_le l
    rw [check_good l h1]
    simp only [List.length_drop] at ih
    refine ⟨by simp only []; omega, fun e => ?_, fun e => ?_⟩
    · have := ih.2.1 e; simp only []; omega
    · have := ih.2.2 e; simp only []; omega

theorem check_take (l : List UInt8) : check (l.take (check l).2) = (true, (check l).2) := by
  refine check_ind (M := fun l => check (l.take (check l).2) = (true, (check l).2)) ?_ ?_ ?_ l.length l (Nat.le_refl _)
  · rfl
  · intro l h0 h1
    rw [check_bad l h0 h1]; rfl
  · intro l h1 ih
    rw [check_good l h1]
    simp only []
    generalize hp : (check (l.drop (seqLen l))).2 = p at *
    have ht : seqLen (l.take (seqLen l + p)) = seqLen l := seqLen_take l _ (by omega) (by omega)
    rw [check_good _ (by rw [ht]; exact h1), ht]
    have e : (l.take (seqLen l + p)).drop (seqLen l) = (l.drop (seqLen l)).take p := by
      rw [List.drop_take]; congr 1; omega
    rw [e, ih]

theorem check_app_good (l b : List UInt8) (h : (check l).1 = true) : check (l ++ b) = ((check b).1, l.length + (check b).2) := by
  revert h
  refine check_ind (M := fun l => (check l).1 = true → check (l ++ b) = ((check b).1, l.length + (check b).2)) ?_ ?_ ?_ l.length l (Nat.le_refl _)
  · intro _; simp
  · intro l h0 h1 h
    rw [check_bad l h0 h1] at h; cases h
  · intro l h1 ih h
    have hle := seqLen_le l
    rw [check_good l h1] at h
    have hs := seqLen_app l b (by omega)
    rw [check_good _ (by rw [hs]; exact h1), hs, List.drop_append_of_le_length hle, ih h]
    simp only [List.length_drop]
    congr 1; omega

theorem check_app_bad (l b : List UInt8) (h : (check l).1 = false) (h4 : (check l).2 + 4 ≤ l.length) : check (l ++ b) = (false, (check l).2) := by
  revert h h4
  refine check_ind (M := fun l => (check l).1 = false → (check l).2 + 4 ≤ l.length → check (l ++ b) = (false, (check l).2)) ?_ ?_ ?_ l.length l (Nat.le_refl _)
  · intro h; cases h
  · intro l h0 h1 h h4
    rw [check_bad l h0 h1] at h4 ⊢
    rw [check_bad (l ++ b) (by simp only [List.length_append]; omega) (seqLen_zero_app l b (by simpa using h4) h1)]
  · intro l h1 ih h h4
    have hle := seqLen_le l
    rw [check_good l h1] at h h4 ⊢
    simp only [] at h h4
    have hs := seqLen_app l b (by omega)
    rw [check_good _ (by rw [hs]; exact h1), hs, List.drop_append_of_le_length hle, ih h (by simp only [List.length_drop]; omega)]

end TextMath
end Go.Proofs.YtkecaeceeldcaaaGreatDoor
