import Derived.Test.YtkiidlnimjjnlaaDoorRows
import Derived.Test.YtkiidlnimjjnlaaDoorBytes
namespace Go.Proofs.YtkiidlnimjjnlaaDoor
namespace TextMath

def u (b : UInt8) : Int := (b.toNat : Int)

def ld (b : Int) : Int × Int × Int :=
  if b ≤ 127 then (1, 0, 0) else if b < 194 then (0, 0, 0) else if b ≤ 223 then (2, 128, 191)
  else if b = 224 then (3, 160, 191) else if b = 237 then (3, 128, 159) else if b ≤ 239 then (3, 128, 191)
  else if b = 240 then (4, 144, 191) else if b ≤ 243 then (4, 128, 191) else if b = 244 then (4, 128, 143) else (0, 0, 0)

def wi (b lo hi : Int) : Bool := decide (lo ≤ b) && decide (b ≤ hi)

def seqLen (l : List UInt8) : Nat :=
  let n := (ld (u (l.getD 0 0))).1
  if (l.length : Int) < n then 0
  else if n = 4 ∧ wi (u (l.getD 3 0)) 128 191 = false then 0
  else if (n = 4 ∨ n = 3) ∧ wi (u (l.getD 2 0)) 128 191 = false then 0
  else if (n = 4 ∨ n = 3 ∨ n = 2) ∧ wi (u (l.getD 1 0)) (ld (u (l.getD 0 0))).2.1 (ld (u (l.getD 0 0))).2.2 = false then 0
  else n.toNat

theorem ld_cases (b : Int) : (ld b).1 = 0 ∨ (ld b).1 = 1 ∨ (ld b).1 = 2 ∨ (ld b).1 = 3 ∨ (ld b).1 = 4 := by
  unfold ld; repeat' split
  all_goals simp

theorem seqLen_le (l : List UInt8) : seqLen l ≤ l.length := by
  unfold seqLen; simp only []
  repeat' split
  all_goals omega

theorem seqLen_le4 (l : List UInt8) : seqLen l ≤ 4 := by
  have := ld_cases (u (l.getD 0 0))
  unfold seqLen; simp only []
  repeat' split
  all_goals omega

theorem getD_app (l b : List UInt8) (i : Nat) (h : i < l.length) : (l ++ b).getD i 0 = l.getD i 0 := by
  simp [List.getD, List.getElem?_append_left h]

theorem getD_take (l : List UInt8) (m i : Nat) (h : i < m) : (l.take m).getD i 0 = l.getD i 0 := by
  simp [List.getD, List.getElem?_take_of_lt h]

/-- The sequence hangs on its own bytes alone. -/
theorem seqLen_congr (l k : List UInt8) (h0 : k.getD 0 0 = l.getD 0 0) (n : Nat) (hn : seqLen l = n) (hp : 0 < n) (hl : n ≤ k.length)
    (h : ∀ i, i < n → k.getD i 0 = l.getD i 0) : seqLen k = n := by
  have hc := ld_cases (u (l.getD 0 0))
  have hle := seqLen_le l
  unfold seqLen at hn ⊢
  simp only [h0] at hn ⊢
  generalize (ld (u (l.getD 0 0))) = q at *
  obtain ⟨m, lo, hi⟩ := q
  simp only [] at hc hn ⊢
  rcases hc with rfl | rfl | rfl | rfl | rfl
  · simp at hn; omega
  · have hnn : n = 1 := by
      repeat' split at hn
      all_goals simp_all
    subst hnn
    simp; omega
  · have hnn : n = 2 := by
      repeat' split at hn
      all_goals simp_all
    subst hnn
    have h1 := h 1 (by omega)
    simp only [h1]
    simp at hn ⊢
    repeat' split at hn
    all_goals simp_all
    all_goals omega
  · have hnn : n = 3 := by
      repeat' split at hn
      all_goals simp_all
    subst hnn
    have h1 := h 1 (by omega)
    have h2 := h 2 (by omega)
    simp only [h1, h2]
    simp at hn ⊢
    repeat' split at hn
    all_goals simp_all
    all_goals omega
  · have hnn : n = 4 := by
      repeat' split at hn
      all_goals simp_all
    subst hnn
    have h1 := h 1 (by omega)
    have h2 := h 2 (by omega)
    have h3 := h 3 (by omega)
    simp only [h1, h2, h3]
    simp at hn ⊢
    repeat' split at hn
    all_goals simp_all
    all_goals omega

theorem seqLen_app (l b : List UInt8) (hp : 0 < seqLen l) : seqLen (l ++ b) = seqLen l := by
  have hle := seqLen_le l
  exact seqLen_congr l (l ++ b) (getD_app l b 0 (by omega)) _ rfl hp (by simp; omega) fun i hi => getD_app l b i (by omega)

theorem seqLen_take (l : List UInt8) (m : Nat) (hm : seqLen l ≤ m) (hp : 0 < seqLen l) : seqLen (l.take m) = seqLen l := by
  have hle := seqLen_le l
  exact seqLen_congr l (l.take m) (getD_take l m 0 (by omega)) _ rfl hp (by simp; omega) fun i hi => getD_take l m i (by omega)

theorem seqLen_zero_app (l b : List UInt8) (h4 : 4 ≤ l.length) (h0 : seqLen l = 0) : seqLen (l ++ b) = 0 := by
  have hc := ld_cases (u (l.getD 0 0))
  unfold seqLen at h0 ⊢
  simp only [getD_app l b 0 (by omega), getD_app l b 1 (by omega), getD_app l b 2 (by omega), getD_app l b 3 (by omega)] at h0 ⊢
  generalize (ld (u (l.getD 0 0))) = q at *
  obtain ⟨m, lo, hi⟩ := q
  simp only [] at hc h0 ⊢
  have e1 : ¬ (l.length : Int) < m := by omega
  have e2 : ¬ ((l ++ b).length : Int) < m := by simp; omega
  rw [if_neg e1] at h0
  rw [if_neg e2]
  exact h0

/-- Check, by the text that is left. -/
def chk : Nat → List UInt8 → Bool × Nat
  | 0, _ => (true, 0)
  | f + 1, l => if l.length = 0 then (true, 0) else if seqLen l = 0 then (false, 0) else ((chk f (l.drop (seqLen l))).1, seqLen l + (chk f (l.drop (seqLen l))).2)

theorem chk_fuel : ∀ (f g : Nat) (l : List UInt8), l.length ≤ f → l.length ≤ g → chk f l = chk g l
  | 0, 0, _, _, _ => rfl
  | 0, g + 1, l, h, _ => by simp [chk, Nat.le_zero.1 h]
  | f + 1, 0, l, _, h => by simp [chk, Nat.le_zero.1 h]
  | f + 1, g + 1, l, hf, hg => by
    unfold chk
    by_cases h0 : l.length = 0
    · simp [h0]
    · by_cases h1 : seqLen l = 0
      · simp [h1]
      · rw [if_neg h0, if_neg h1, if_neg h0, if_neg h1, chk_fuel f g (l.drop (seqLen l)) (by simp; omega) (by simp; omega)]

def check (l : List UInt8) : Bool × Nat := chk l.length l

theorem check_nil : check [] = (true, 0) := rfl
theorem check_bad (l : List UInt8) (h0 : l.length ≠ 0) (h : seqLen l = 0) : check l = (false, 0) := by
  unfold check
  obtain ⟨n, hn⟩ := Nat.exists_eq_succ_of_ne_zero h0
  rw [hn]; unfold chk; rw [if_neg h0, if_pos h]
theorem check_good (l : List UInt8) (h : seqLen l ≠ 0) : check l = ((check (l.drop (seqLen l))).1, seqLen l + (check (l.drop (seqLen l))).2) := by
  have h0 : l.length ≠ 0 := by have := seqLen_le l; omega
  obtain ⟨n, hn⟩ := Nat.exists_eq_succ_of_ne_zero h0
  have e : check l = chk (n + 1) l := by unfold check; rw [hn]
  rw [e]; unfold chk; rw [if_neg h0, if_neg h]
  have e2 : chk n (l.drop (seqLen l)) = check (l.drop (seqLen l)) := chk_fuel _ _ _ (by simp; omega) (by simp)
  rw [e2]

theorem check_ind {M : List UInt8 → Prop} (h0 : M []) (h1 : ∀ l, l.length ≠ 0 → seqLen l = 0 → M l) (h2 : ∀ l, seqLen l ≠ 0 → M (l.drop (seqLen l)) → M l) : ∀ (n : Nat) (l : List UInt8), l.length ≤ n → M l
  | 0, l, h => by
    have : l = [] := List.eq_nil_of_length_eq_zero (by omega)
    subst this; exact h0
  | n + 1, l, h => by
    by_cases e : l.length = 0
    · have : l = [] := List.eq_nil_of_length_eq_zero e
      subst this; exact h0
    · by_cases e1 : seqLen l = 0
      · exact h1 l e e1
      · exact h2 l e1 (check_ind h0 h1 h2 n _ (by simp; omega))

theorem check_place (l : List UInt8) : (check l).2 ≤ l.length ∧ ((check l).1 = true → (check l).2 = l.length) ∧ ((check l).1 = false → (check l).2 < l.length) := by
  refine check_ind (M := fun l => (check l).2 ≤ l.length ∧ ((check l).1 = true → (check l).2 = l.length) ∧ ((check l).1 = false → (check l).2 < l.length)) ?_ ?_ ?_ l.length l (Nat.le_refl _)
  · simp [check_nil]
  · intro l h0 h1
    rw [check_bad l h0 h1]; simp; omega
  · intro l h1 ih
    have hle := seqLen_le l
    rw [check_good l h1]
    simp only [List.length_drop] at ih
    refine ⟨by simp only []; omega, fun e => ?_, fun e => ?_⟩
    · have := ih.2.1 e; simp only []; omega
    · have := ih.2.2 e; simp only []; omega

theorem check_take (l : List UInt8) : check (l.take (check l).2) = (true, (check l).2) := by
  refine check_ind (M := fun l => check (l.take (check l).2) = (true, (check l).2)) ?_ ?_ ?_ l.length l (Nat.le_refl _)
  · rfl
  · intro l h0 h1
    rw [check_bad l h0 h1]; rfl
  · intro l h1 ih
    rw [check_good l h1]
    simp only []
    generalize hp : (check (l.drop (seqLen l))).2 = p at *
    have ht : seqLen (l.take (seqLen l + p)) = seqLen l := seqLen_take l _ (by omega) (by omega)
    rw [check_good _ (by rw [ht]; exact h1), ht]
    have e : (l.take (seqLen l + p)).drop (seqLen l) = (l.drop (seqLen l)).take p := by
      rw [List.drop_take]; congr 1; omega
    rw [e, ih]

theorem check_app_good (l b : List UInt8) (h : (check l).1 = true) : check (l ++ b) = ((check b).1, l.length + (check b).2) := by
  revert h
  refine check_ind (M := fun l => (check l).1 = true → check (l ++ b) = ((check b).1, l.length + (check b).2)) ?_ ?_ ?_ l.length l (Nat.le_refl _)
  · intro _; simp
  · intro l h0 h1 h
    rw [check_bad l h0 h1] at h; cases h
  · intro l h1 ih h
    have hle := seqLen_le l
    rw [check_good l h1] at h
    have hs := seqLen_app l b (by omega)
    rw [check_good _ (by rw [hs]; exact h1), hs, List.drop_append_of_le_length hle, ih h]
    simp only [List.length_drop]
    congr 1; omega

theorem check_app_bad (l b : List UInt8) (h : (check l).1 = false) (h4 : (check l).2 + 4 ≤ l.length) : check (l ++ b) = (false, (check l).2) := by
  revert h h4
  refine check_ind (M := fun l => (check l).1 = false → (check l).2 + 4 ≤ l.length → check (l ++ b) = (false, (check l).2)) ?_ ?_ ?_ l.length l (Nat.le_refl _)
  · intro h; cases h
  · intro l h0 h1 h h4
    rw [check_bad l h0 h1] at h4 ⊢
    rw [check_bad (l ++ b) (by simp only [List.length_append]; omega) (seqLen_zero_app l b (by simpa using h4) h1)]
  · intro l h1 ih h h4
    have hle := seqLen_le l
    rw [check_good l h1] at h h4 ⊢
    simp only [] at h h4
    have hs := seqLen_app l b (by omega)
    rw [check_good _ (by rw [hs]; exact h1), hs, List.drop_append_of_le_length hle, ih h (by simp only [List.length_drop]; omega)]

end TextMath
end Go.Proofs.YtkiidlnimjjnlaaDoor

namespace Go.Proofs.YtkiidlnimjjnlaaDoor
open Go.RowKit
open TextMath (ld wi seqLen check u)

set_option maxHeartbeats 400000 in
theorem lead_any (b : Int) (w : World) (h0 : 0 ≤ b) (h1 : b ≤ 255) :
    Calls Tryd.prog 60 #[.int .u8 b] w fun e w' => e = .returned (.tuple #[.int .i64 (ld b).1, .int .u8 (ld b).2.1, .int .u8 (ld b).2.2]) ∧ w' = w := by
  unfold ld
  go_enter Tryd.func60, Tryd.ntmps60
  go_wp2
  all_goals
    go_ret3
    refine ⟨?_, rfl⟩
    simp_all <;> omega

set_option maxHeartbeats 400000 in
theorem within_any (b lo hi : Int) (w : World) :
    Calls Tryd.prog 61 #[.int .u8 b, .int .u8 lo, .int .u8 hi] w fun e w' => e = .returned (.bool (wi b lo hi)) ∧ w' = w := by
  unfold wi
  go_enter Tryd.func61, Tryd.ntmps61
  go_wp2
  all_goals
    go_ret
    refine ⟨?_, rfl⟩
    simp_all <;> omega

theorem len_s (s : ByteArray) : (s.data.toList.length : Int) = s.size := by show ((s.data.toList.length : Nat) : Int) = ((s.data.size : Nat) : Int); simp

section
variable (s : ByteArray) (lo hi : Int) (hs : 0 < s.size)
theorem seq0 (hq : ld (u s[0]) = (0, lo, hi)) : (0 : Int) = seqLen s.data.toList := by
  simp only [seqLen, getD_s s 0 hs, hq, len_s]; simp
theorem seq1 (hq : ld (u s[0]) = (1, lo, hi)) : (1 : Int) = seqLen s.data.toList := by
  simp only [seqLen, getD_s s 0 hs, hq, len_s]; simp
  rw [if_neg (by omega)]; rfl
theorem seqS (n : Int) (hq : ld (u s[0]) = (n, lo, hi)) (hl : (s.size : Int) < n) : (0 : Int) = seqLen s.data.toList := by
  simp only [seqLen, getD_s s 0 hs, hq, len_s]
  rw [if_pos hl]; rfl
theorem seq2f (hl : ¬ s.size < 2) (hq : ld (u s[0]) = (2, lo, hi)) (hw : (!wi (s[1].toNat : Int) lo hi) = true) : (0 : Int) = seqLen s.data.toList := by
  simp only [seqLen, getD_s s 0 hs, getD_s s 1 (by omega), hq, len_s]
  rw [if_neg (by omega)]; simp only [Bool.not_eq_true'] at hw; simp [u, hw]
theorem seq2t (hl : ¬ s.size < 2) (hq : ld (u s[0]) = (2, lo, hi)) (hw : (!wi (s[1].toNat : Int) lo hi) = false) : (2 : Int) = seqLen s.data.toList := by
  simp only [seqLen, getD_s s 0 hs, getD_s s 1 (by omega), hq, len_s]
  rw [if_neg (by omega)]; simp only [Bool.not_eq_false'] at hw; simp [u, hw]
theorem seq3f (hl : ¬ s.size < 3) (hq : ld (u s[0]) = (3, lo, hi)) (hw : (!wi (s[2].toNat : Int) 128 191) = true) : (0 : Int) = seqLen s.data.toList := by
  simp only [seqLen, getD_s s 0 hs, getD_s s 1 (by omega), getD_s s 2 (by omega), hq, len_s]
  rw [if_neg (by omega)]; simp only [Bool.not_eq_true'] at hw; simp [u, hw]
theorem seq3g (hl : ¬ s.size < 3) (hq : ld (u s[0]) = (3, lo, hi)) (hw2 : (!wi (s[2].toNat : Int) 128 191) = false) (hw : (!wi (s[1].toNat : Int) lo hi) = true) : (0 : Int) = seqLen s.data.toList := by
  simp only [seqLen, getD_s s 0 hs, getD_s s 1 (by omega), getD_s s 2 (by omega), hq, len_s]
  rw [if_neg (by omega)]; simp only [Bool.not_eq_true', Bool.not_eq_false'] at hw hw2; simp [u, hw, hw2]
theorem seq3t (hl : ¬ s.size < 3) (hq : ld (u s[0]) = (3, lo, hi)) (hw2 : (!wi (s[2].toNat : Int) 128 191) = false) (hw : (!wi (s[1].toNat : Int) lo hi) = false) : (3 : Int) = seqLen s.data.toList := by
  simp only [seqLen, getD_s s 0 hs, getD_s s 1 (by omega), getD_s s 2 (by omega), hq, len_s]
  rw [if_neg (by omega)]; simp only [Bool.not_eq_false'] at hw hw2; simp [u, hw, hw2]
theorem seq4f (hl : ¬ s.size < 4) (hq : ld (u s[0]) = (4, lo, hi)) (hw : (!wi (s[3].toNat : Int) 128 191) = true) : (0 : Int) = seqLen s.data.toList := by
  simp only [seqLen, getD_s s 0 hs, getD_s s 1 (by omega), getD_s s 2 (by omega), getD_s s 3 (by omega), hq, len_s]
  rw [if_neg (by omega)]; simp only [Bool.not_eq_true'] at hw; simp [u, hw]
theorem seq4e (hl : ¬ s.size < 4) (hq : ld (u s[0]) = (4, lo, hi)) (hw3 : (!wi (s[3].toNat : Int) 128 191) = false) (hw : (!wi (s[2].toNat : Int) 128 191) = true) : (0 : Int) = seqLen s.data.toList := by
  simp only [seqLen, getD_s s 0 hs, getD_s s 1 (by omega), getD_s s 2 (by omega), getD_s s 3 (by omega), hq, len_s]
  rw [if_neg (by omega)]; simp only [Bool.not_eq_true', Bool.not_eq_false'] at hw hw3; simp [u, hw, hw3]
theorem seq4g (hl : ¬ s.size < 4) (hq : ld (u s[0]) = (4, lo, hi)) (hw3 : (!wi (s[3].toNat : Int) 128 191) = false) (hw2 : (!wi (s[2].toNat : Int) 128 191) = false) (hw : (!wi (s[1].toNat : Int) lo hi) = true) : (0 : Int) = seqLen s.data.toList := by
  simp only [seqLen, getD_s s 0 hs, getD_s s 1 (by omega), getD_s s 2 (by omega), getD_s s 3 (by omega), hq, len_s]
  rw [if_neg (by omega)]; simp only [Bool.not_eq_true', Bool.not_eq_false'] at hw hw2 hw3; simp [u, hw, hw2, hw3]
theorem seq4t (hl : ¬ s.size < 4) (hq : ld (u s[0]) = (4, lo, hi)) (hw3 : (!wi (s[3].toNat : Int) 128 191) = false) (hw2 : (!wi (s[2].toNat : Int) 128 191) = false) (hw : (!wi (s[1].toNat : Int) lo hi) = false) : (4 : Int) = seqLen s.data.toList := by
  simp only [seqLen, getD_s s 0 hs, getD_s s 1 (by omega), getD_s s 2 (by omega), getD_s s 3 (by omega), hq, len_s]
  rw [if_neg (by omega)]; simp only [Bool.not_eq_false'] at hw hw2 hw3; simp [u, hw, hw2, hw3]
end

set_option maxHeartbeats 1000000 in
theorem sequence_any (s : ByteArray) (w : World) (hs : 0 < s.size) (hm : s.size ≤ maxLen) :
    Calls Tryd.prog 48 #[.string s] w fun e w' => e = .returned (.int .i64 (seqLen s.data.toList)) ∧ w' = w := by
  unfold maxLen at hm
  have hb : s[0].toNat < 256 := s[0].toNat_lt
  have hc := TextMath.ld_cases (u s[0])
  obtain ⟨n, lo, hi, hq⟩ : ∃ n lo hi, ld (u s[0]) = (n, lo, hi) := ⟨_, _, _, rfl⟩
  rw [hq] at hc
  have Hq : Hid (ld (u s[0]) = (n, lo, hi)) := hq
  clear hq
  simp only [] at hc
  by_cases hl : (s.size : Int) < n
  · rcases hc with rfl | rfl | rfl | rfl | rfl
    · omega
    · omega
    all_goals
      go_enter Tryd.func48, Tryd.ntmps48
      go_wp2_with (go_at_call 60; refine (lead_any _ _ ?_ ?_).mono ?_; omega; omega; rintro e w' ⟨rfl, rfl⟩; rw [show ld ↑s[0].toNat = _ from Hq.out])
      go_ret
      exact ⟨ret_int (seqS s lo hi hs _ Hq.out hl), rfl⟩
  rcases hc with rfl | rfl | rfl | rfl | rfl
  all_goals
    go_enter Tryd.func48, Tryd.ntmps48
    go_wp2_with (first | (go_at_call 60; refine (lead_any _ _ ?_ ?_).mono ?_; omega; omega; rintro e w' ⟨rfl, rfl⟩; rw [show ld ↑s[0].toNat = _ from Hq.out]) | (go_at_call 61; refine (within_any _ _ _ _).mono ?_; rintro e w' ⟨rfl, rfl⟩))
    all_goals
      go_ret
      refine ⟨ret_int ?_, rfl⟩
      first
        | exact seq0 s lo hi hs Hq.out
        | exact seq1 s lo hi hs Hq.out
        | exact seq2f s lo hi hs (by omega) Hq.out ‹_›
        | exact seq2t s lo hi hs (by omega) Hq.out ‹_›
        | exact seq3f s lo hi hs (by omega) Hq.out ‹_›
        | exact seq3g s lo hi hs (by omega) Hq.out ‹_› ‹_›
        | exact seq3t s lo hi hs (by omega) Hq.out ‹_› ‹_›
        | exact seq4f s lo hi hs (by omega) Hq.out ‹_›
        | exact seq4e s lo hi hs (by omega) Hq.out ‹_› ‹_›
        | exact seq4g s lo hi hs (by omega) Hq.out ‹_› ‹_› ‹_›
        | exact seq4t s lo hi hs (by omega) Hq.out ‹_› ‹_› ‹_›
end Go.Proofs.YtkiidlnimjjnlaaDoor

namespace Go.Proofs.YtkiidlnimjjnlaaDoor
open Go.RowKit
open TextMath (ld wi seqLen check u)

/-- What Check answers of a text. -/
def chkV (l : List UInt8) : Value := .tuple #[.int .i64 (if (check l).1 = true then 0 else 10), .int .i64 ((check l).2 : Nat)]

theorem chkV_bad (l : List UInt8) (k : Nat) (hk : k < l.length) (hc : check l = ((check (l.drop k)).1, k + (check (l.drop k)).2)) (h0 : seqLen (l.drop k) = 0) :
    Ending.returned (.tuple #[.int .i64 10, .int .i64 (k : Nat)]) = .returned (chkV l) := by
  rw [TextMath.check_bad (l.drop k) (by simp; omega) h0] at hc
  unfold chkV; rw [hc]; simp
theorem chkV_end (l : List UInt8) (k : Nat) (hk : ¬ k < l.length) (hc : check l = ((check (l.drop k)).1, k + (check (l.drop k)).2)) :
    Ending.returned (.tuple #[.int .i64 0, .int .i64 (k : Nat)]) = .returned (chkV l) := by
  rw [List.drop_eq_nil_of_le (by omega), TextMath.check_nil] at hc
  unfold chkV; rw [hc]; simp
theorem chk_step (l : List UInt8) (k : Nat) (hc : check l = ((check (l.drop k)).1, k + (check (l.drop k)).2)) (h0 : seqLen (l.drop k) ≠ 0) :
    check l = ((check (l.drop (k + seqLen (l.drop k)))).1, k + seqLen (l.drop k) + (check (l.drop (k + seqLen (l.drop k)))).2) := by
  rw [TextMath.check_good (l.drop k) h0, List.drop_drop] at hc
  rw [hc]; simp; omega

set_option maxHeartbeats 400000 in
theorem check_any (s : ByteArray) (w : World) (hm : s.size ≤ maxLen) :
    Calls Tryd.prog 40 #[.string s] w fun e w' => e = .returned (chkV s.data.toList) ∧ w' = w := by
  have hm' := hm
  unfold maxLen at hm
  have hL : Hid (s.data.toList.length = s.size) := by show s.data.toList.length = s.data.size; simp
  go_enter Tryd.func40, Tryd.ntmps40
  go_wp2
  go_loop [4] (fun i => ∃ k : Nat, k ≤ s.size ∧ i = .int .i64 k ∧ Hid (check s.data.toList = ((check (s.data.toList.drop k)).1, k + (check (s.data.toList.drop k)).2))) (fun i => s.size - (intOf i).toNat)
  case atStart => exact ⟨0, Nat.zero_le _, rfl, by unfold Hid; simp⟩
  case round =>
    obtain ⟨k, hk, rfl, hc⟩ := hrel
    by_cases hlt : k < s.size
    · have hq := TextMath.seqLen_le (s.data.toList.drop k)
      have hq' : seqLen (s.data.toList.drop k) + k ≤ s.size := by rw [List.length_drop, hL.out] at hq; omega
      clear hq
      generalize hn : seqLen (s.data.toList.drop k) = n at *
      have Hn : Hid (seqLen (s.data.toList.drop k) = n) := hn
      clear hn
      by_cases hn0 : n = 0
      · subst hn0
        go_wp2_with (go_at_call 48; refine (sequence_any _ _ ?_ ?_).mono ?_; simp; omega; simp [maxLen]; omega; rintro e w' ⟨rfl, rfl⟩; rw [drop_l, Hn.out])
        go_ret2
        exact ⟨chkV_bad _ k (by rw [hL.out]; exact hlt) hc.out Hn.out, rfl⟩
      · have hz : (((n : Nat) : Int) == 0) = false := by simp; omega
        go_wp2_with (go_at_call 48; refine (sequence_any _ _ ?_ ?_).mono ?_; simp; omega; simp [maxLen]; omega; rintro e w' ⟨rfl, rfl⟩; rw [drop_l, Hn.out])
        go_round
        case rel => exact ⟨k + n, by omega, by go_num, by have h := chk_step _ k hc.out (by rw [Hn.out]; exact hn0); rw [Hn.out] at h; exact h⟩
        case measure => simp [intOf]; omega
    · go_wp2
      go_ret2
      exact ⟨chkV_end _ k (by rw [hL.out]; exact hlt) hc.out, rfl⟩
end Go.Proofs.YtkiidlnimjjnlaaDoor

namespace Go.Proofs.YtkiidlnimjjnlaaDoor
open Go.RowKit
open TextMath (ld wi seqLen check u)

def ROWS : List (List Int) := [[1, 0, 127, 0, 0, 0, 0, 0, 0], [2, 194, 223, 128, 191, 0, 0, 0, 0], [3, 224, 224, 160, 191, 128, 191, 0, 0], [3, 225, 236, 128, 191, 128, 191, 0, 0], [3, 237, 237, 128, 159, 128, 191, 0, 0], [3, 238, 239, 128, 191, 128, 191, 0, 0],
  [4, 240, 240, 144, 191, 128, 191, 128, 191], [4, 241, 243, 128, 191, 128, 191, 128, 191], [4, 244, 244, 128, 143, 128, 191, 128, 191]]
def R (r c : Nat) : Int := (ROWS.getD r []).getD c 0
/-- The row's sequence stands at the head of the text. -/
def fit (r : Nat) (l : List UInt8) : Prop := R r 0 ≤ l.length ∧ ∀ k : Nat, (k : Int) < R r 0 → R r (1 + 2 * k) ≤ u (l.getD k 0) ∧ u (l.getD k 0) ≤ R r (2 + 2 * k)

/-- The table lies in its variable. -/
def RowTab (w : World) : Prop := ∀ r c, r < 9 → c < 9 → w.cell? ⟨0, r * 9 + c, none⟩ = some (.int .i64 (R r c))

theorem R_small : ∀ r : Fin 9, 1 ≤ R r.val 0 ∧ R r.val 0 ≤ 4 := by decide

theorem drop_getD (l : List UInt8) (i k : Nat) : (l.drop i).getD k 0 = l.getD (i + k) 0 := by simp [List.getD, List.getElem?_drop]

theorem fit_of (s : ByteArray) (i r n : Nat) (hn : R r 0 = n) (hf : i + n ≤ s.size) (h : ∀ k, k < n → R r (1 + 2 * k) ≤ u (s.data.toList.getD (i + k) 0) ∧ u (s.data.toList.getD (i + k) 0) ≤ R r (2 + 2 * k)) : fit r (s.data.toList.drop i) := by
  refine ⟨?_, fun k hk => ?_⟩
  · rw [hn, List.length_drop, size_l]; omega
  · rw [drop_getD]; rw [hn] at hk; exact h k (by omega)
theorem fit_not (s : ByteArray) (i r n k : Nat) (hn : R r 0 = n) (hk : k < n) (h : u (s.data.toList.getD (i + k) 0) < R r (1 + 2 * k) ∨ R r (2 + 2 * k) < u (s.data.toList.getD (i + k) 0)) : ¬ fit r (s.data.toList.drop i) := by
  intro hf
  have := hf.2 k (by rw [hn]; omega)
  rw [drop_getD] at this
  omega
theorem fit_short (s : ByteArray) (i r : Nat) (hi : i ≤ s.size) (h : (s.size : Int) < i + R r 0) : ¬ fit r (s.data.toList.drop i) := by
  intro hf
  have := hf.1
  rw [List.length_drop, size_l] at this
  omega

set_option maxHeartbeats 1000000 in
/-- What fits answers: true just where the row's sequence stands there. -/
theorem fits_any (s : ByteArray) (i r : Nat) (w : World) (hm : s.size ≤ 140737488355328) (hi : i ≤ s.size) (hr : r < 9) (ht : RowTab w) :
    Calls Tryd.prog 59 #[.string s, .int .i64 (i : Int), .int .i64 (r : Int)] w fun e w' => (∃ b, e = .returned (.bool b) ∧ (b = true ↔ fit r (s.data.toList.drop i))) ∧ w = w' := by
  have hc0 := ht r 0 hr (by omega)
  rw [Nat.add_zero] at hc0
  have hR := R_small ⟨r, hr⟩
  simp only [] at hR
  obtain ⟨n, hn⟩ : ∃ n : Nat, R r 0 = n := ⟨(R r 0).toNat, by omega⟩
  rw [hn] at hc0 hR
  have hn4 : n ≤ 4 := by omega
  have hr' : (r : Int) < 9 := by omega
  have HN : Hid (R r 0 = n) := hn
  clear hn hR
  by_cases hf : s.size < i + n
  · have hno : Hid (¬ fit r (s.data.toList.drop i)) := fit_short s i r hi (by rw [HN.out]; omega)
    go_enter Tryd.func59, Tryd.ntmps59
    go_wp2
    go_ret
    exact ⟨⟨false, rfl, by simp [hno.out]⟩, rfl⟩
  · go_enter Tryd.func59, Tryd.ntmps59
    go_wp2
    go_loop [8] (fun t => ∃ k : Nat, k ≤ n ∧ t = .int .i64 k ∧ Hid (∀ j, j < k → R r (1 + 2 * j) ≤ u (s.data.toList.getD (i + j) 0) ∧ u (s.data.toList.getD (i + j) 0) ≤ R r (2 + 2 * j))) (fun t => n - (intOf t).toNat)
    case atStart => exact ⟨0, Nat.zero_le _, rfl, fun _ h => by omega⟩
    case round =>
      obtain ⟨k, hk, rfl, hall⟩ := hrel
      by_cases hlt : k < n
      · have c1 := ht r (1 + 2 * k) hr (by omega)
        have c2 := ht r (2 + 2 * k) hr (by omega)
        have e1 : ((1 : Int) + 2 * (k : Int)).toNat = 1 + 2 * k := by omega
        have e2 : ((2 : Int) + 2 * (k : Int)).toNat = 2 + 2 * k := by omega
        have hik : i + k < s.size := by omega
        have hg := getD_s s (i + k) hik
        have e3 : ((i : Int) + (k : Int)).toNat = i + k := by omega
        have hyes : Hid (R r (1 + 2 * k) ≤ (s[i + k].toNat : Int) ∧ (s[i + k].toNat : Int) ≤ R r (2 + 2 * k) → ∀ j, j < k + 1 → R r (1 + 2 * j) ≤ u (s.data.toList.getD (i + j) 0) ∧ u (s.data.toList.getD (i + j) 0) ≤ R r (2 + 2 * j)) := by
          intro h j hj
          by_cases e : j = k
          · subst e; rw [hg]; exact h
          · exact hall.out j (by omega)
        have hnot : Hid ((s[i + k].toNat : Int) < R r (1 + 2 * k) ∨ R r (2 + 2 * k) < (s[i + k].toNat : Int) → ¬ fit r (s.data.toList.drop i)) := fun h => fit_not s i r n k HN.out hlt (by rw [hg]; exact h)
        generalize R r (1 + 2 * k) = la at *
        generalize R r (2 + 2 * k) = lb at *
        have hb256 : s[i + k].toNat < 256 := s[i + k].toNat_lt
        clear hall hg
        by_cases t1 : (s[i + k].toNat : Int) < la
        · have hno := hnot.out (Or.inl t1)
          have HNO : Hid (¬ fit r (s.data.toList.drop i)) := hno
          clear hno hnot hyes
          go_wp2
          go_ret
          exact ⟨⟨false, rfl, by simp [HNO.out]⟩, rfl⟩
        · have d1 : decide ((s[i + k].toNat : Int) < la) = false := by simpa using t1
          by_cases t2 : lb < (s[i + k].toNat : Int)
          · have HNO : Hid (¬ fit r (s.data.toList.drop i)) := hnot.out (Or.inr t2)
            clear hnot hyes
            go_wp2
            go_ret
            exact ⟨⟨false, rfl, by simp [HNO.out]⟩, rfl⟩
          · have HY : Hid (_) := hyes.out ⟨by omega, by omega⟩
            have d2 : decide (lb < (s[i + k].toNat : Int)) = false := by simpa using t2
            clear hnot hyes
            go_wp2
            go_round
            case rel => exact ⟨k + 1, by omega, by go_num, HY⟩
            case measure => simp [intOf]; omega
      · have hke : k = n := by omega
        have HF : Hid (fit r (s.data.toList.drop i)) := fit_of s i r n HN.out (by omega) (by rw [← hke]; exact hall.out)
        clear hall hke
        go_wp2
        go_ret
        exact ⟨Or.inr ⟨rfl, HF.out⟩, rfl⟩
end Go.Proofs.YtkiidlnimjjnlaaDoor

namespace Go.Proofs.YtkiidlnimjjnlaaDoor
open Go.RowKit
open TextMath (ld wi seqLen check u)

theorem wi_false (b lo hi : Int) : wi b lo hi = false ↔ ¬ (lo ≤ b ∧ b ≤ hi) := by
  unfold wi; rw [Bool.eq_false_iff, ne_eq, Bool.and_eq_true, decide_eq_true_eq, decide_eq_true_eq]

theorem seqLen_intro (l : List UInt8) (n lo hi : Int) (h : ld (u (l.getD 0 0)) = (n, lo, hi)) (hl : n ≤ l.length) (h3 : n = 4 → 128 ≤ u (l.getD 3 0) ∧ u (l.getD 3 0) ≤ 191)
    (h2 : n = 4 ∨ n = 3 → 128 ≤ u (l.getD 2 0) ∧ u (l.getD 2 0) ≤ 191) (h1 : n = 4 ∨ n = 3 ∨ n = 2 → lo ≤ u (l.getD 1 0) ∧ u (l.getD 1 0) ≤ hi) : (seqLen l : Int) = n.toNat := by
  unfold seqLen
  simp only [h]
  rw [if_neg (by omega), if_neg, if_neg, if_neg]
  · rintro ⟨a, b⟩; exact (wi_false _ _ _).1 b (h1 a)
  · rintro ⟨a, b⟩; exact (wi_false _ _ _).1 b (h2 a)
  · rintro ⟨a, b⟩; exact (wi_false _ _ _).1 b (h3 a)
theorem seqLen_elim (l : List UInt8) (n lo hi : Int) (h : ld (u (l.getD 0 0)) = (n, lo, hi)) (h0 : seqLen l ≠ 0) : n ≤ l.length ∧ (n = 4 → 128 ≤ u (l.getD 3 0) ∧ u (l.getD 3 0) ≤ 191) ∧
    (n = 4 ∨ n = 3 → 128 ≤ u (l.getD 2 0) ∧ u (l.getD 2 0) ≤ 191) ∧ (n = 4 ∨ n = 3 ∨ n = 2 → lo ≤ u (l.getD 1 0) ∧ u (l.getD 1 0) ≤ hi) ∧ n ≠ 0 := by
  unfold seqLen at h0
  simp only [h] at h0
  split at h0
  · exact absurd rfl h0
  split at h0
  · exact absurd rfl h0
  split at h0
  · exact absurd rfl h0
  split at h0
  · exact absurd rfl h0
  rename_i a b c d
  refine ⟨by omega, fun e => ?_, fun e => ?_, fun e => ?_, fun e => h0 (by rw [e]; rfl)⟩
  · by_cases hx : 128 ≤ u (l.getD 3 0) ∧ u (l.getD 3 0) ≤ 191
    · exact hx
    · exact absurd ⟨e, (wi_false _ _ _).2 hx⟩ b
  · by_cases hx : 128 ≤ u (l.getD 2 0) ∧ u (l.getD 2 0) ≤ 191
    · exact hx
    · exact absurd ⟨e, (wi_false _ _ _).2 hx⟩ c
  · by_cases hx : lo ≤ u (l.getD 1 0) ∧ u (l.getD 1 0) ≤ hi
    · exact hx
    · exact absurd ⟨e, (wi_false _ _ _).2 hx⟩ d

theorem fit_mk (r : Nat) (l : List UInt8) (n : Nat) (hn : R r 0 = n) (h4 : n ≤ 4) (hl : n ≤ l.length) (h : ∀ k, k < 4 → k < n → R r (1 + 2 * k) ≤ u (l.getD k 0) ∧ u (l.getD k 0) ≤ R r (2 + 2 * k)) : fit r l :=
  ⟨by rw [hn]; omega, fun k hk => by rw [hn] at hk; exact h k (by omega) (by omega)⟩

theorem seq_fit (r : Nat) (hr : r < 9) (l : List UInt8) (h : fit r l) : (seqLen l : Int) = R r 0 := by
  obtain ⟨hl, hk⟩ := h
  match r, hr with
  | 0, _ =>
    have k0 := hk 0 (by decide)
    have hl' : (1 : Int) ≤ l.length := hl
    have a0 : (0 : Int) ≤ u (l.getD 0 0) ∧ u (l.getD 0 0) ≤ 127 := k0
    exact seqLen_intro l 1 0 0 (by unfold ld; rw [if_pos (by omega)]) hl' (by omega) (by omega) (by omega)
  | 1, _ =>
    have hl' : (2 : Int) ≤ l.length := hl
    have a0 : (194 : Int) ≤ u (l.getD 0 0) ∧ u (l.getD 0 0) ≤ 223 := hk 0 (by decide)
    have a1 : (128 : Int) ≤ u (l.getD 1 0) ∧ u (l.getD 1 0) ≤ 191 := hk 1 (by decide)
    exact seqLen_intro l 2 128 191 (by unfold ld; rw [if_neg (by omega), if_neg (by omega), if_pos (by omega)]) hl' (by omega) (by omega) (fun _ => a1)
  | 2, _ =>
    have hl' : (3 : Int) ≤ l.length := hl
    have a0 : (224 : Int) ≤ u (l.getD 0 0) ∧ u (l.getD 0 0) ≤ 224 := hk 0 (by decide)
    have a1 : (160 : Int) ≤ u (l.getD 1 0) ∧ u (l.getD 1 0) ≤ 191 := hk 1 (by decide)
    have a2 : (128 : Int) ≤ u (l.getD 2 0) ∧ u (l.getD 2 0) ≤ 191 := hk 2 (by decide)
    exact seqLen_intro l 3 160 191 (by unfold ld; rw [if_neg (by omega), if_neg (by omega), if_neg (by omega), if_pos (by omega)]) hl' (by omega) (fun _ => a2) (fun _ => a1)
  | 3, _ =>
    have hl' : (3 : Int) ≤ l.length := hl
    have a0 : (225 : Int) ≤ u (l.getD 0 0) ∧ u (l.getD 0 0) ≤ 236 := hk 0 (by decide)
    have a1 : (128 : Int) ≤ u (l.getD 1 0) ∧ u (l.getD 1 0) ≤ 191 := hk 1 (by decide)
    have a2 : (128 : Int) ≤ u (l.getD 2 0) ∧ u (l.getD 2 0) ≤ 191 := hk 2 (by decide)
    exact seqLen_intro l 3 128 191 (by unfold ld; rw [if_neg (by omega), if_neg (by omega), if_neg (by omega), if_neg (by omega), if_neg (by omega), if_pos (by omega)]) hl' (by omega) (fun _ => a2) (fun _ => a1)
  | 4, _ =>
    have hl' : (3 : Int) ≤ l.length := hl
    have a0 : (237 : Int) ≤ u (l.getD 0 0) ∧ u (l.getD 0 0) ≤ 237 := hk 0 (by decide)
    have a1 : (128 : Int) ≤ u (l.getD 1 0) ∧ u (l.getD 1 0) ≤ 159 := hk 1 (by decide)
    have a2 : (128 : Int) ≤ u (l.getD 2 0) ∧ u (l.getD 2 0) ≤ 191 := hk 2 (by decide)
    exact seqLen_intro l 3 128 159 (by unfold ld; rw [if_neg (by omega), if_neg (by omega), if_neg (by omega), if_neg (by omega), if_pos (by omega)]) hl' (by omega) (fun _ => a2) (fun _ => a1)
  | 5, _ =>
    have hl' : (3 : Int) ≤ l.length := hl
    have a0 : (238 : Int) ≤ u (l.getD 0 0) ∧ u (l.getD 0 0) ≤ 239 := hk 0 (by decide)
    have a1 : (128 : Int) ≤ u (l.getD 1 0) ∧ u (l.getD 1 0) ≤ 191 := hk 1 (by decide)
    have a2 : (128 : Int) ≤ u (l.getD 2 0) ∧ u (l.getD 2 0) ≤ 191 := hk 2 (by decide)
    exact seqLen_intro l 3 128 191 (by unfold ld; rw [if_neg (by omega), if_neg (by omega), if_neg (by omega), if_neg (by omega), if_neg (by omega), if_pos (by omega)]) hl' (by omega) (fun _ => a2) (fun _ => a1)
  | 6, _ =>
    have hl' : (4 : Int) ≤ l.length := hl
    have a0 : (240 : Int) ≤ u (l.getD 0 0) ∧ u (l.getD 0 0) ≤ 240 := hk 0 (by decide)
    have a1 : (144 : Int) ≤ u (l.getD 1 0) ∧ u (l.getD 1 0) ≤ 191 := hk 1 (by decide)
    have a2 : (128 : Int) ≤ u (l.getD 2 0) ∧ u (l.getD 2 0) ≤ 191 := hk 2 (by decide)
    have a3 : (128 : Int) ≤ u (l.getD 3 0) ∧ u (l.getD 3 0) ≤ 191 := hk 3 (by decide)
    exact seqLen_intro l 4 144 191 (by unfold ld; rw [if_neg (by omega), if_neg (by omega), if_neg (by omega), if_neg (by omega), if_neg (by omega), if_neg (by omega), if_pos (by omega)]) hl' (fun _ => a3) (fun _ => a2) (fun _ => a1)
  | 7, _ =>
    have hl' : (4 : Int) ≤ l.length := hl
    have a0 : (241 : Int) ≤ u (l.getD 0 0) ∧ u (l.getD 0 0) ≤ 243 := hk 0 (by decide)
    have a1 : (128 : Int) ≤ u (l.getD 1 0) ∧ u (l.getD 1 0) ≤ 191 := hk 1 (by decide)
    have a2 : (128 : Int) ≤ u (l.getD 2 0) ∧ u (l.getD 2 0) ≤ 191 := hk 2 (by decide)
    have a3 : (128 : Int) ≤ u (l.getD 3 0) ∧ u (l.getD 3 0) ≤ 191 := hk 3 (by decide)
    exact seqLen_intro l 4 128 191 (by unfold ld; rw [if_neg (by omega), if_neg (by omega), if_neg (by omega), if_neg (by omega), if_neg (by omega), if_neg (by omega), if_neg (by omega), if_pos (by omega)]) hl' (fun _ => a3) (fun _ => a2) (fun _ => a1)
  | 8, _ =>
    have hl' : (4 : Int) ≤ l.length := hl
    have a0 : (244 : Int) ≤ u (l.getD 0 0) ∧ u (l.getD 0 0) ≤ 244 := hk 0 (by decide)
    have a1 : (128 : Int) ≤ u (l.getD 1 0) ∧ u (l.getD 1 0) ≤ 143 := hk 1 (by decide)
    have a2 : (128 : Int) ≤ u (l.getD 2 0) ∧ u (l.getD 2 0) ≤ 191 := hk 2 (by decide)
    have a3 : (128 : Int) ≤ u (l.getD 3 0) ∧ u (l.getD 3 0) ≤ 191 := hk 3 (by decide)
    exact seqLen_intro l 4 128 143 (by unfold ld; rw [if_neg (by omega), if_neg (by omega), if_neg (by omega), if_neg (by omega), if_neg (by omega), if_neg (by omega), if_neg (by omega), if_neg (by omega), if_pos (by omega)]) hl' (fun _ => a3) (fun _ => a2) (fun _ => a1)

theorem fit1 (r : Nat) (l : List UInt8) (a b : Int) (hr : ROWS.getD r [] = [1, a, b, 0, 0, 0, 0, 0, 0]) (hl : 1 ≤ (l.length : Int)) (h0 : a ≤ u (l.getD 0 0) ∧ u (l.getD 0 0) ≤ b) : fit r l := by
  have hR : ∀ c, R r c = ([1, a, b, 0, 0, 0, 0, 0, 0] : List Int).getD c 0 := fun c => by unfold R; rw [hr]
  refine fit_mk r l 1 (by rw [hR]; rfl) (by omega) (by omega) fun k hk hk1 => ?_
  obtain rfl : k = 0 := by omega
  rw [hR, hR]; exact h0
theorem fit2 (r : Nat) (l : List UInt8) (a b c d : Int) (hr : ROWS.getD r [] = [2, a, b, c, d, 0, 0, 0, 0]) (hl : 2 ≤ (l.length : Int)) (h0 : a ≤ u (l.getD 0 0) ∧ u (l.getD 0 0) ≤ b) (h1 : c ≤ u (l.getD 1 0) ∧ u (l.getD 1 0) ≤ d) : fit r l := by
  have hR : ∀ x, R r x = ([2, a, b, c, d, 0, 0, 0, 0] : List Int).getD x 0 := fun x => by unfold R; rw [hr]
  refine fit_mk r l 2 (by rw [hR]; rfl) (by omega) (by omega) fun k hk hk1 => ?_
  rw [hR, hR]
  match k, hk1 with
  | 0, _ => exact h0
  | 1, _ => exact h1
theorem fit3 (r : Nat) (l : List UInt8) (a b c d : Int) (hr : ROWS.getD r [] = [3, a, b, c, d, 128, 191, 0, 0]) (hl : 3 ≤ (l.length : Int)) (h0 : a ≤ u (l.getD 0 0) ∧ u (l.getD 0 0) ≤ b) (h1 : c ≤ u (l.getD 1 0) ∧ u (l.getD 1 0) ≤ d)
    (h2 : 128 ≤ u (l.getD 2 0) ∧ u (l.getD 2 0) ≤ 191) : fit r l := by
  have hR : ∀ x, R r x = ([3, a, b, c, d, 128, 191, 0, 0] : List Int).getD x 0 := fun x => by unfold R; rw [hr]
  refine fit_mk r l 3 (by rw [hR]; rfl) (by omega) (by omega) fun k hk hk1 => ?_
  rw [hR, hR]
  match k, hk1 with
  | 0, _ => exact h0
  | 1, _ => exact h1
  | 2, _ => exact h2
theorem fit4 (r : Nat) (l : List UInt8) (a b c d : Int) (hr : ROWS.getD r [] = [4, a, b, c, d, 128, 191, 128, 191]) (hl : 4 ≤ (l.length : Int)) (h0 : a ≤ u (l.getD 0 0) ∧ u (l.getD 0 0) ≤ b) (h1 : c ≤ u (l.getD 1 0) ∧ u (l.getD 1 0) ≤ d)
    (h2 : 128 ≤ u (l.getD 2 0) ∧ u (l.getD 2 0) ≤ 191) (h3 : 128 ≤ u (l.getD 3 0) ∧ u (l.getD 3 0) ≤ 191) : fit r l := by
  have hR : ∀ x, R r x = ([4, a, b, c, d, 128, 191, 128, 191] : List Int).getD x 0 := fun x => by unfold R; rw [hr]
  refine fit_mk r l 4 (by rw [hR]; rfl) (by omega) (by omega) fun k hk hk1 => ?_
  rw [hR, hR]
  match k, hk1 with
  | 0, _ => exact h0
  | 1, _ => exact h1
  | 2, _ => exact h2
  | 3, _ => exact h3

theorem seq_nofit (l : List UInt8) (h : ∀ r, r < 9 → ¬ fit r l) : seqLen l = 0 := by
  by_cases hz : seqLen l = 0
  · exact hz
  exfalso
  have hu : (0 : Int) ≤ u (l.getD 0 0) := by unfold u; omega
  obtain ⟨n, lo, hi, hq⟩ : ∃ n lo hi, ld (u (l.getD 0 0)) = (n, lo, hi) := ⟨_, _, _, rfl⟩
  obtain ⟨hl, h3, h2, h1, hn⟩ := seqLen_elim l n lo hi hq hz
  unfold ld at hq
  split at hq
  · obtain ⟨rfl, rfl, rfl⟩ : 1 = n ∧ 0 = lo ∧ 0 = hi := by simpa using hq
    exact h 0 (by omega) (fit1 0 l 0 127 rfl hl ⟨hu, by omega⟩)
  split at hq
  · obtain ⟨rfl, rfl, rfl⟩ : 0 = n ∧ 0 = lo ∧ 0 = hi := by simpa using hq
    exact hn rfl
  split at hq
  · obtain ⟨rfl, rfl, rfl⟩ : 2 = n ∧ 128 = lo ∧ 191 = hi := by simpa using hq
    exact h 1 (by omega) (fit2 1 l 194 223 128 191 rfl hl ⟨by omega, by omega⟩ (h1 (by omega)))
  split at hq
  · obtain ⟨rfl, rfl, rfl⟩ : 3 = n ∧ 160 = lo ∧ 191 = hi := by simpa using hq
    exact h 2 (by omega) (fit3 2 l 224 224 160 191 rfl hl ⟨by omega, by omega⟩ (h1 (by omega)) (h2 (by omega)))
  split at hq
  · obtain ⟨rfl, rfl, rfl⟩ : 3 = n ∧ 128 = lo ∧ 159 = hi := by simpa using hq
    exact h 4 (by omega) (fit3 4 l 237 237 128 159 rfl hl ⟨by omega, by omega⟩ (h1 (by omega)) (h2 (by omega)))
  split at hq
  · obtain ⟨rfl, rfl, rfl⟩ : 3 = n ∧ 128 = lo ∧ 191 = hi := by simpa using hq
    by_cases hx : u (l.getD 0 0) ≤ 236
    · exact h 3 (by omega) (fit3 3 l 225 236 128 191 rfl hl ⟨by omega, by omega⟩ (h1 (by omega)) (h2 (by omega)))
    · exact h 5 (by omega) (fit3 5 l 238 239 128 191 rfl hl ⟨by omega, by omega⟩ (h1 (by omega)) (h2 (by omega)))
  split at hq
  · obtain ⟨rfl, rfl, rfl⟩ : 4 = n ∧ 144 = lo ∧ 191 = hi := by simpa using hq
    exact h 6 (by omega) (fit4 6 l 240 240 144 191 rfl hl ⟨by omega, by omega⟩ (h1 (by omega)) (h2 (by omega)) (h3 (by omega)))
  split at hq
  · obtain ⟨rfl, rfl, rfl⟩ : 4 = n ∧ 128 = lo ∧ 191 = hi := by simpa using hq
    exact h 7 (by omega) (fit4 7 l 241 243 128 191 rfl hl ⟨by omega, by omega⟩ (h1 (by omega)) (h2 (by omega)) (h3 (by omega)))
  split at hq
  · obtain ⟨rfl, rfl, rfl⟩ : 4 = n ∧ 128 = lo ∧ 143 = hi := by simpa using hq
    exact h 8 (by omega) (fit4 8 l 244 244 128 143 rfl hl ⟨by omega, by omega⟩ (h1 (by omega)) (h2 (by omega)) (h3 (by omega)))
  · obtain ⟨rfl, rfl, rfl⟩ : 0 = n ∧ 0 = lo ∧ 0 = hi := by simpa using hq
    exact hn rfl

set_option maxHeartbeats 1000000 in
theorem rSequence_any (s : ByteArray) (i : Nat) (w : World) (hm : s.size ≤ 140737488355328) (hi : i ≤ s.size) (ht : RowTab w) :
    Calls Tryd.prog 46 #[.string s, .int .i64 (i : Int)] w fun e w' => e = .returned (.int .i64 (seqLen (s.data.toList.drop i) : Nat)) ∧ w = w' := by
  go_enter Tryd.func46, Tryd.ntmps46
  go_wp2
  go_loop [5] (fun t => ∃ k : Nat, k ≤ 9 ∧ t = .int .i64 k ∧ Hid (∀ r, r < k → ¬ fit r (s.data.toList.drop i))) (fun t => 9 - (intOf t).toNat)
  case atStart => exact ⟨0, Nat.zero_le _, rfl, fun _ h => by omega⟩
  case round =>
    obtain ⟨k, hk, rfl, hall⟩ := hrel
    by_cases hlt : k < 9
    · have hc0 := ht k 0 hlt (by omega)
      rw [Nat.add_zero] at hc0
      have hk' : (k : Int) < 9 := by omega
      by_cases hf : fit k (s.data.toList.drop i)
      · have hs := seq_fit k hlt _ hf
        have HS : Hid (R k 0 = (seqLen (s.data.toList.drop i) : Nat)) := hs.symm
        have hcall : ∀ W, RowTab W → Hid (Calls Tryd.prog 59 #[.string s, .int .i64 (i : Int), .int .i64 (k : Int)] W fun e w' => e = .returned (.bool true) ∧ W = w') := fun W hW => (fits_any s i k W hm hi hlt hW).mono fun e w' h => by
          obtain ⟨⟨b, hb, hiff⟩, hw⟩ := h
          rw [hiff.2 hf] at hb
          exact ⟨hb, hw⟩
        clear hs hf hall
        go_wp2_with (go_at_call 59; refine (hcall _ ht).out.mono ?_; rintro e w' ⟨rfl, rfl⟩)
        go_ret
        exact ⟨ret_int HS.out, rfl⟩
      · have hcall : ∀ W, RowTab W → Hid (Calls Tryd.prog 59 #[.string s, .int .i64 (i : Int), .int .i64 (k : Int)] W fun e w' => e = .returned (.bool false) ∧ W = w') := fun W hW => (fits_any s i k W hm hi hlt hW).mono fun e w' h => by
          obtain ⟨⟨b, hb, hiff⟩, hw⟩ := h
          have : b = false := by
            cases b
            · rfl
            · exact absurd (hiff.1 rfl) hf
          rw [this] at hb
          exact ⟨hb, hw⟩
        have HA : Hid (∀ r, r < k + 1 → ¬ fit r (s.data.toList.drop i)) := fun r hr => by
          by_cases e : r = k
          · subst e; exact hf
          · exact hall.out r (by omega)
        clear hf hall
        go_wp2_with (go_at_call 59; refine (hcall _ ht).out.mono ?_; rintro e w' ⟨rfl, rfl⟩)
        go_round
        case rel => exact ⟨k + 1, by omega, by go_num, HA⟩
        case measure => simp [intOf]; omega
    · have hz : Hid (seqLen (s.data.toList.drop i) = 0) := seq_nofit _ fun r hr => hall.out r (by omega)
      clear hall
      go_wp2
      go_ret
      exact ⟨ret_int (by rw [hz.out]; rfl), rfl⟩

set_option maxHeartbeats 400000 in
theorem rCheck_any (s : ByteArray) (w : World) (hm : s.size ≤ 140737488355328) (ht : RowTab w) :
    Calls Tryd.prog 37 #[.string s] w fun e w' => e = .returned (chkV s.data.toList) ∧ w = w' := by
  have hL : Hid (s.data.toList.length = s.size) := size_l s
  go_enter Tryd.func37, Tryd.ntmps37
  go_wp2
  go_loop [4] (fun i => ∃ k : Nat, k ≤ s.size ∧ i = .int .i64 k ∧ Hid (check s.data.toList = ((check (s.data.toList.drop k)).1, k + (check (s.data.toList.drop k)).2))) (fun i => s.size - (intOf i).toNat)
  case atStart => exact ⟨0, Nat.zero_le _, rfl, by unfold Hid; simp⟩
  case round =>
    obtain ⟨k, hk, rfl, hc⟩ := hrel
    by_cases hlt : k < s.size
    · have hq := TextMath.seqLen_le (s.data.toList.drop k)
      have hq' : seqLen (s.data.toList.drop k) + k ≤ s.size := by rw [List.length_drop, hL.out] at hq; omega
      clear hq
      have hcall : ∀ W, RowTab W → Hid (Calls Tryd.prog 46 #[.string s, .int .i64 (k : Int)] W fun e w' => e = .returned (.int .i64 (seqLen (s.data.toList.drop k) : Nat)) ∧ W = w') := fun W hW => rSequence_any s k W hm hk hW
      generalize hn : seqLen (s.data.toList.drop k) = n at *
      have Hn : Hid (seqLen (s.data.toList.drop k) = n) := hn
      clear hn
      by_cases hn0 : n = 0
      · subst hn0
        go_wp2_with (go_at_call 46; refine (hcall _ ht).out.mono ?_; rintro e w' ⟨rfl, rfl⟩)
        go_ret2
        exact ⟨chkV_bad _ k (by rw [hL.out]; exact hlt) hc.out Hn.out, rfl⟩
      · have hz : (((n : Nat) : Int) == 0) = false := by simp; omega
        go_wp2_with (go_at_call 46; refine (hcall _ ht).out.mono ?_; rintro e w' ⟨rfl, rfl⟩)
        go_round
        case rel => exact ⟨k + n, by omega, by go_num, by have h := chk_step _ k hc.out (by rw [Hn.out]; exact hn0); rw [Hn.out] at h; exact h⟩
        case measure => simp [intOf]; omega
    · have hke : k = s.size := by omega
      have h := chkV_end _ k (by rw [hL.out]; exact hlt) hc.out
      rw [hke] at h
      have HH : Hid (_ = _) := h
      clear h hke hc
      go_wp2
      go_ret2
      exact ⟨HH.out, rfl⟩

theorem chkV_split (l : List UInt8) : ∃ e p : Int, chkV l = .tuple #[.int .i64 e, .int .i64 p] := ⟨_, _, rfl⟩

end Go.Proofs.YtkiidlnimjjnlaaDoor
