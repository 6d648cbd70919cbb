import Derived.Test.YtkknenmpdimdbaaGreatDoorQC
import Derived.Test.YtkknenmpdimdbaaGreatDoorQB
import Derived.Shelf.SlSortCmp.SmallK
import Derived.WalkKit
import Derived.Lib.Strings
import Derived.Test.YtkknenmpdimdbaaGreatDoorRows
import Derived.Deep.AppendLies
import Derived.Great.BuildSlice
import Derived.BigQuiet
import Derived.KernelRfl
namespace Go.Proofs.YtkknenmpdimdbaaGreatDoor
namespace TextMath

def u (b : UInt8) : Int := (b.toNat : Int)

def ld (b : Int) : Int × Int × Int :=
  if b ≤ 127 then (1, 0, 0) else if b < 194 then (0, 0, 0) else if b ≤ 223 then (2, 128, 191)
  else if b = 224 then (3, 160, 191) else if b = 237 then (3, 128, 159) else if b ≤ 239 then (3, 128, 191)
  else if b = 240 then (4, 144, 191) else if b ≤ 243 then (4, 128, 191) else if b = 244 then (4, 128, 143) else (0, 0, 0)

def wi (b lo hi : Int) : Bool := decide (lo ≤ b) && decide (b ≤ hi)

def seqLen (l : List UInt8) : Nat :=
  let n := (ld (u (l.getD 0 0))).1
  if (l.length : Int) < n then 0
  else if n = 4 ∧ wi (u (l.getD 3 0)) 128 191 = false then 0
  else if (n = 4 ∨ n = 3) ∧ wi (u (l.getD 2 0)) 128 191 = false then 0
  else if (n = 4 ∨ n = 3 ∨ n = 2) ∧ wi (u (l.getD 1 0)) (ld (u (l.getD 0 0))).2.1 (ld (u (l.getD 0 0))).2.2 = false then 0
  else n.toNat

theorem ld_cases (b : Int) : (ld b).1 = 0 ∨ (ld b).1 = 1 ∨ (ld b).1 = 2 ∨ (ld b).1 = 3 ∨ (ld b).1 = 4 := by
  unfold ld; repeat' split
  all_goals simp

theorem seqLen_le (l : List UInt8) : seqLen l ≤ l.length := by
  unfold seqLen; simp only []
  repeat' split
  all_goals omega

theorem seqLen_le4 (l : List UInt8) : seqLen l ≤ 4 := by
  have := ld_cases (u (l.getD 0 0))
  unfold seqLen; simp only []
  repeat' split
  all_goals omega

theorem getD_app (l b : List UInt8) (i : Nat) (h : i < l.length) : (l ++ b).getD i 0 = l.getD i 0 := by
  simp [List.getD, List.getElem?_append_left h]

theorem getD_take (l : List UInt8) (m i : Nat) (h : i < m) : (l.take m).getD i 0 = l.getD i 0 := by
  simp [List.getD, List.getElem?_take_of_lt h]

/-- The sequence hangs on its own bytes alone. -/
theorem seqLen_congr (l k : List UInt8) (h0 : k.getD 0 0 = l.getD 0 0) (n : Nat) (hn : seqLen l = n) (hp : 0 < n) (hl : n ≤ k.length)
    (h : ∀ i, i < n → k.getD i 0 = l.getD i 0) : seqLen k = n := by
  have hc := ld_cases (u (l.getD 0 0))
  have hle := seqLen_le l
  unfold seqLen at hn ⊢
  simp only [h0] at hn ⊢
  generalize (ld (u (l.getD 0 0))) = q at *
  obtain ⟨m, lo, hi⟩ := q
  simp only [] at hc hn ⊢
  rcases hc with rfl | rfl | rfl | rfl | rfl
  · simp at hn; omega
  · have hnn : n = 1 := by
      repeat' split at hn
      all_goals simp_all
    subst hnn
    simp; omega
  · have hnn : n = 2 := by
      repeat' split at hn
      all_goals simp_all
    subst hnn
    have h1 := h 1 (by omega)
    simp only [h1]
    simp at hn ⊢
    repeat' split at hn
    all_goals simp_all
    all_goals omega
  · have hnn : n = 3 := by
      repeat' split at hn
      all_goals simp_all
    subst hnn
    have h1 := h 1 (by omega)
    have h2 := h 2 (by omega)
    simp only [h1, h2]
    simp at hn ⊢
    repeat' split at hn
    all_goals simp_all
    all_goals omega
  · have hnn : n = 4 := by
      repeat' split at hn
      all_goals simp_all
    subst hnn
    have h1 := h 1 (by omega)
    have h2 := h 2 (by omega)
    have h3 := h 3 (by omega)
    simp only [h1, h2, h3]
    simp at hn ⊢
    repeat' split at hn
    all_goals simp_all
    all_goals omega

theorem seqLen_app (l b : List UInt8) (hp : 0 < seqLen l) : seqLen (l ++ b) = seqLen l := by
  have hle := seqLen_le l
  exact seqLen_congr l (l ++ b) (getD_app l b 0 (by omega)) _ rfl hp (by simp; omega) fun i hi => getD_app l b i (by omega)

theorem seqLen_take (l : List UInt8) (m : Nat) (hm : seqLen l ≤ m) (hp : 0 < seqLen l) : seqLen (l.take m) = seqLen l := by
  have hle := seqLen_le l
  exact seqLen_congr l (l.take m) (getD_take l m 0 (by omega)) _ rfl hp (by simp; omega) fun i hi => getD_take l m i (by omega)

theorem seqLen_zero_app (l b : List UInt8) (h4 : 4 ≤ l.length) (h0 : seqLen l = 0) : seqLen (l ++ b) = 0 := by
  have hc := ld_cases (u (l.getD 0 0))
  unfold seqLen at h0 ⊢
  simp only [getD_app l b 0 (by omega), getD_app l b 1 (by omega), getD_app l b 2 (by omega), getD_app l b 3 (by omega)] at h0 ⊢
  generalize (ld (u (l.getD 0 0))) = q at *
  obtain ⟨m, lo, hi⟩ := q
  simp only [] at hc h0 ⊢
  have e1 : ¬ (l.length : Int) < m := by omega
  have e2 : ¬ ((l ++ b).length : Int) < m := by simp; omega
  rw [if_neg e1] at h0
  rw [if_neg e2]
  exact h0

/-- Check, by the text that is left. -/
def chk : Nat → List UInt8 → Bool × Nat
  | 0, _ => (true, 0)
  | f + 1, l => if l.length = 0 then (true, 0) else if seqLen l = 0 then (false, 0) else ((chk f (l.drop (seqLen l))).1, seqLen l + (chk f (l.drop (seqLen l))).2)

theorem chk_fuel : ∀ (f g : Nat) (l : List UInt8), l.length ≤ f → l.length ≤ g → chk f l = chk g l
  | 0, 0, _, _, _ => rfl
  | 0, g + 1, l, h, _ => by simp [chk, Nat.le_zero.1 h]
  | f + 1, 0, l, _, h => by simp [chk, Nat.le_zero.1 h]
  | f + 1, g + 1, l, hf, hg => by
    unfold chk
    by_cases h0 : l.length = 0
    · simp [h0]
    · by_cases h1 : seqLen l = 0
      · simp [h1]
      · rw [if_neg h0, if_neg h1, if_neg h0, if_neg h1, chk_fuel f g (l.drop (seqLen l)) (by simp; omega) (by simp; omega)]

def check (l : List UInt8) : Bool × Nat := chk l.length l

theorem check_nil : check [] = (true, 0) := rfl
theorem check_bad (l : List UInt8) (h0 : l.length ≠ 0) (h : seqLen l = 0) : check l = (false, 0) := by
  unfold check
  obtain ⟨n, hn⟩ := Nat.exists_eq_succ_of_ne_zero h0
  rw [hn]; unfold chk; rw [if_neg h0, if_pos h]
theorem check_good (l : List UInt8) (h : seqLen l ≠ 0) : check l = ((check (l.drop (seqLen l))).1, seqLen l + (check (l.drop (seqLen l))).2) := by
  have h0 : l.length ≠ 0 := by have := seqLen_le l; omega
  obtain ⟨n, hn⟩ := Nat.exists_eq_succ_of_ne_zero h0
  have e : check l = chk (n + 1) l := by unfold check; rw [hn]
  rw [e]; unfold chk; rw [if_neg h0, if_neg h]
  have e2 : chk n (l.drop (seqLen l)) = check (l.drop (seqLen l)) := chk_fuel _ _ _ (by simp; omega) (by simp)
  rw [e2]

theorem check_ind {M : List UInt8 → Prop} (h0 : M []) (h1 : ∀ l, l.length ≠ 0 → seqLen l = 0 → M l) (h2 : ∀ l, seqLen l ≠ 0 → M (l.drop (seqLen l)) → M l) : ∀ (n : Nat) (l : List UInt8), l.length ≤ n → M l
  | 0, l, h => by
    have : l = [] := List.eq_nil_of_length_eq_zero (by omega)
    subst this; exact h0
  | n + 1, l, h => by
    by_cases e : l.length = 0
    · have : l = [] := List.eq_nil_of_length_eq_zero e
      subst this; exact h0
    · by_cases e1 : seqLen l = 0
      · exact h1 l e e1
      · exact h2 l e1 (check_ind h0 h1 h2 n _ (by simp; omega))

theorem check_place (l : List UInt8) : (check l).2 ≤ l.length ∧ ((check l).1 = true → (check l).2 = l.length) ∧ ((check l).1 = false → (check l).2 < l.length) := by
  refine check_ind (M := fun l => (check l).2 ≤ l.length ∧ ((check l).1 = true → (check l).2 = l.length) ∧ ((check l).1 = false → (check l).2 < l.length)) ?_ ?_ ?_ l.length l (Nat.le_refl _)
  · simp [check_nil]
  · intro l h0 h1
    rw [check_bad l h0 h1]; simp; omega
  · intro l h1 ih
    have hle := seqLen_le l
    rw [check_good l h1]
    simp only [List.length_drop] at ih
    refine ⟨by simp only []; omega, fun e => ?_, fun e => ?_⟩
    · have := ih.2.1 e; simp only []; omega
    · have := ih.2.2 e; simp only []; omega

theorem check_take (l : List UInt8) : check (l.take (check l).2) = (true, (check l).2) := by
  refine check_ind (M := fun l => check (l.take (check l).2) = (true, (check l).2)) ?_ ?_ ?_ l.length l (Nat.le_refl _)
  · rfl
  · intro l h0 h1
    rw [check_bad l h0 h1]; rfl
  · intro l h1 ih
    rw [check_good l h1]
    simp only []
    generalize hp : (check (l.drop (seqLen l))).2 = p at *
    have ht : seqLen (l.take (seqLen l + p)) = seqLen l := seqLen_take l _ (by omega) (by omega)
    rw [check_good _ (by rw [ht]; exact h1), ht]
    have e : (l.take (seqLen l + p)).drop (seqLen l) = (l.drop (seqLen l)).take p := by
      rw [List.drop_take]; congr 1; omega
    rw [e, ih]

theorem check_app_good (l b : List UInt8) (h : (check l).1 = true) : check (l ++ b) = ((check b).1, l.length + (check b).2) := by
  revert h
  refine check_ind (M := fun l => (check l).1 = true → check (l ++ b) = ((check b).1, l.length + (check b).2)) ?_ ?_ ?_ l.length l (Nat.le_refl _)
  · intro _; simp
  · intro l h0 h1 h
    rw [check_bad l h0 h1] at h; cases h
  · intro l h1 ih h
    have hle := seqLen_le l
    rw [check_good l h1] at h
    have hs := seqLen_app l b (by omega)
    rw [check_good _ (by rw [hs]; exact h1), hs, List.drop_append_of_le_length hle, ih h]
    simp only [List.length_drop]
    congr 1; omega

theorem check_app_bad (l b : List UInt8) (h : (check l).1 = false) (h4 : (check l).2 + 4 ≤ l.length) : check (l ++ b) = (false, (check l).2) := by
  revert h h4
  refine check_ind (M := fun l => (check l).1 = false → (check l).2 + 4 ≤ l.length → check (l ++ b) = (false, (check l).2)) ?_ ?_ ?_ l.length l (Nat.le_refl _)
  · intro h; cases h
  · intro l h0 h1 h h4
    rw [check_bad l h0 h1] at h4 ⊢
    rw [check_bad (l ++ b) (by simp only [List.length_append]; omega) (seqLen_zero_app l b (by simpa using h4) h1)]
  · intro l h1 ih h h4
    have hle := seqLen_le l
    rw [check_good l h1] at h h4 ⊢
    simp only [] at h h4
    have hs := seqLen_app l b (by omega)
    rw [check_good _ (by rw [hs]; exact h1), hs, List.drop_append_of_le_length hle, ih h (by simp only [List.length_drop]; omega)]

end TextMath
end Go.Proofs.YtkknenmpdimdbaaGreatDoor

namespace Go.Proofs.YtkknenmpdimdbaaGreatDoor
namespace Ke
open TextMath (fold lo normal check)
open Go.Sort
set_option linter.unusedVariables false

abbrev PR := List UInt8 × List UInt8
/-- Must the byte at place i of a value of n bytes be escaped? -/
def mst (n i : Nat) (b : UInt8) : Bool := b == 92 || b == 34 || b == 43 || b == 44 || b == 59 || b == 60 || b == 62 || (b == 35 && i == 0) || (b == 32 && (i == 0 || i + 1 == n))
/-- What is written for it. -/
def ec (n i : Nat) (b : UInt8) : List UInt8 := if b = 0 then [92, 48, 48] else if mst n i b then [92, b] else [b]
def escF (n : Nat) : Nat → List UInt8 → List UInt8
  | _, [] => []
  | i, b :: t => ec n i b ++ escF n (i + 1) t
def escV (v : List UInt8) : List UInt8 := escF v.length 0 v
theorem ec_len (n i : Nat) (b : UInt8) : (ec n i b).length ≤ 3 := by unfold ec; split <;> (try split) <;> simp
theorem escF_len (n : Nat) : ∀ (l : List UInt8) (i : Nat), (escF n i l).length ≤ 3 * l.length
  | [], _ => Nat.zero_le _
  | b :: t, i => by
    have := escF_len n t (i + 1)
    have := ec_len n i b
    simp only [escF, List.length_append, List.length_cons]
    omega
theorem escV_len (v : List UInt8) : (escV v).length ≤ 3 * v.length := escF_len _ _ _
theorem escF_snoc (n : Nat) (b : UInt8) : ∀ (l : List UInt8) (i : Nat), escF n i (l ++ [b]) = escF n i l ++ ec n (i + l.length) b
  | [], i => by simp [escF]
  | a :: t, i => by
    have := escF_snoc n b t (i + 1)
    simp only [List.cons_append, escF, this, List.length_cons, List.append_assoc]
    rw [show i + 1 + t.length = i + (t.length + 1) from by omega]
theorem mst48 (n i : Nat) : mst n i 48 = false := by
  unfold mst
  have h1 : ((48 : UInt8) == 35) = false := by decide
  have h2 : ((48 : UInt8) == 32) = false := by decide
  rw [h1, h2]
  rfl
theorem mst92 (n i : Nat) : mst n i 92 = true := by
  unfold mst
  rfl
theorem mst43 (n i : Nat) : mst n i 43 = true := by
  unfold mst
  rfl
theorem ec_head (n i : Nat) (b : UInt8) : ∃ c t, ec n i b = c :: t ∧ c ≠ 43 := by
  unfold ec
  split
  · exact ⟨_, _, rfl, by decide⟩
  · split
    · exact ⟨_, _, rfl, by decide⟩
    · rename_i h
      refine ⟨_, _, rfl, fun e => ?_⟩
      subst e
      exact h (mst43 n i)
theorem ec_inj {n i m j : Nat} {b c : UInt8} {X Y : List UInt8} (h : ec n i b ++ X = ec m j c ++ Y) : b = c ∧ X = Y := by
  unfold ec at h
  by_cases hb : b = 0
  · by_cases hc : c = 0
    · rw [if_pos hb, if_pos hc] at h
      exact ⟨by rw [hb, hc], by simpa using h⟩
    · rw [if_pos hb, if_neg hc] at h
      by_cases hm : mst m j c = true
      · rw [if_pos hm] at h
        simp at h
        have := h.1
        subst this
        rw [mst48] at hm
        cases hm
      · rw [if_neg hm] at h
        simp at h
        have := h.1
        subst this
        exact absurd (mst92 m j) hm
  · by_cases hc : c = 0
    · rw [if_neg hb, if_pos hc] at h
      by_cases hm : mst n i b = true
      · rw [if_pos hm] at h
        simp at h
        have := h.1
        subst this
        rw [mst48] at hm
        cases hm
      · rw [if_neg hm] at h
        simp at h
        have := h.1
        subst this
        exact absurd (mst92 n i) hm
    · rw [if_neg hb, if_neg hc] at h
      by_cases hm : mst n i b = true
      · by_cases hk : mst m j c = true
        · rw [if_pos hm, if_pos hk] at h
          simpa using h
        · rw [if_pos hm, if_neg hk] at h
          simp at h
          have := h.1
          subst this
          exact absurd (mst92 m j) hk
      · by_cases hk : mst m j c = true
        · rw [if_neg hm, if_pos hk] at h
          simp at h
          have := h.1
          subst this
          exact absurd (mst92 n i) hm
        · rw [if_neg hm, if_neg hk] at h
          simpa using h
/-- Nothing, or a plus sign at its front. -/
def Pl (r : List UInt8) : Prop := r = [] ∨ ∃ t, r = 43 :: t
theorem escF_inj : ∀ (l l' : List UInt8) (n i m j : Nat) (r r' : List UInt8), Pl r → Pl r' → escF n i l ++ r = escF m j l' ++ r' → l = l' ∧ r = r'
  | [], [], _, _, _, _, r, r', _, _, h => ⟨rfl, by simpa [escF] using h⟩
  | [], c :: t, n, i, m, j, r, r', hr, hr', h => by
    obtain ⟨d, u, e, hd⟩ := ec_head m j c
    simp only [escF, e, List.nil_append, List.cons_append] at h
    rcases hr with e' | ⟨q, e'⟩
    · rw [e'] at h; cases h
    · rw [e'] at h
      injection h with h _
      exact absurd h.symm hd
  | b :: t, [], n, i, m, j, r, r', hr, hr', h => by
    obtain ⟨d, u, e, hd⟩ := ec_head n i b
    simp only [escF, e, List.nil_append, List.cons_append] at h
    rcases hr' with e' | ⟨q, e'⟩
    · rw [e'] at h; cases h
    · rw [e'] at h
      injection h with h _
      exact absurd h hd
  | b :: t, c :: t', n, i, m, j, r, r', hr, hr', h => by
    simp only [escF, List.append_assoc] at h
    obtain ⟨h1, h2⟩ := ec_inj h
    obtain ⟨h3, h4⟩ := escF_inj t t' n (i + 1) m (j + 1) r r' hr hr' h2
    exact ⟨by rw [h1, h3], h4⟩
/-- A pair's text; a part's. -/
def pt1 (p : PR) : List UInt8 := p.1 ++ 61 :: escV p.2
def ptT (l : List PR) : List UInt8 := l.flatMap fun p => 43 :: pt1 p
def ptx : List PR → List UInt8
  | [] => []
  | p :: t => pt1 p ++ ptT t
theorem ptT_pl (l : List PR) : Pl (ptT l) := by
  cases l with
  | nil => exact Or.inl rfl
  | cons p t => exact Or.inr ⟨pt1 p ++ ptT t, by simp [ptT]⟩
theorem ptx_snoc (l : List PR) (p : PR) : ptx (l ++ [p]) = ptx l ++ (if l = [] then pt1 p else 43 :: pt1 p) := by
  cases l with
  | nil => simp [ptx, ptT]
  | cons a t => simp [ptx, ptT]
theorem split61 : ∀ (a b : List UInt8) (X Y : List UInt8), 61 ∉ a → 61 ∉ b → a ++ 61 :: X = b ++ 61 :: Y → a = b ∧ X = Y
  | [], [], X, Y, _, _, h => ⟨rfl, by simpa using h⟩
  | [], c :: b, X, Y, _, hb, h => by
    simp at h
    exact absurd (by rw [h.1]; simp) hb
  | c :: a, [], X, Y, ha, _, h => by
    simp at h
    exact absurd (by rw [h.1]; simp) ha
  | c :: a, d :: b, X, Y, ha, hb, h => by
    simp only [List.cons_append] at h
    injection h with h1 h2
    obtain ⟨h3, h4⟩ := split61 a b X Y (fun q => ha (by simp [q])) (fun q => hb (by simp [q])) h2
    exact ⟨by rw [h1, h3], h4⟩
theorem pt_inj : ∀ (t t' : List PR) (p q : PR), 61 ∉ p.1 → 61 ∉ q.1 → (∀ x ∈ t, 61 ∉ x.1) → (∀ x ∈ t', 61 ∉ x.1) → pt1 p ++ ptT t = pt1 q ++ ptT t' → p = q ∧ t = t'
  | t, t', p, q, hp, hq, ht, ht', h => by
    unfold pt1 at h
    simp only [List.append_assoc, List.cons_append] at h
    obtain ⟨h1, h2⟩ := split61 _ _ _ _ hp hq h
    obtain ⟨h3, h4⟩ := escF_inj p.2 q.2 p.2.length 0 q.2.length 0 (ptT t) (ptT t') (ptT_pl t) (ptT_pl t') h2
    refine ⟨Prod.ext h1 h3, ?_⟩
    match t, t' with
    | [], [] => rfl
    | [], c :: t' => simp [ptT] at h4
    | c :: t, [] => simp [ptT] at h4
    | c :: t, d :: t' =>
      have h5 : pt1 c ++ ptT t = pt1 d ++ ptT t' := by simpa [ptT] using h4
      obtain ⟨h6, h7⟩ := pt_inj t t' c d (ht c (by simp)) (ht' d (by simp)) (fun x hx => ht x (by simp [hx])) (fun x hx => ht' x (by simp [hx])) h5
      rw [h6, h7]
theorem ptx_inj (l l' : List PR) (h : ∀ x ∈ l, 61 ∉ x.1) (h' : ∀ x ∈ l', 61 ∉ x.1) (e : ptx l = ptx l') : l = l' := by
  match l, l' with
  | [], [] => rfl
  | [], c :: t => simp [ptx, pt1] at e
  | c :: t, [] => simp [ptx, pt1] at e
  | c :: t, d :: t' =>
    obtain ⟨h6, h7⟩ := pt_inj t t' c d (h c (by simp)) (h' d (by simp)) (fun x hx => h x (by simp [hx])) (fun x hx => h' x (by simp [hx])) e
    rw [h6, h7]

/-- Is it a type; its canonical one. -/
def tyR (s : List UInt8) : ByteArray × Int × Nat := parsT (S (fold s))
def tyOk (s : List UInt8) : Bool := decide ((tyR s).2.1 = 0)
def tyC (s : List UInt8) : List UInt8 := (tyR s).1.data.toList
theorem tyR_er (s : List UInt8) : (tyR s).2.1 = if tyOk s = true then 0 else 40 := by
  unfold tyOk tyR parsT
  split <;> simp
/-- A byte of a type. -/
def Gd (x : UInt8) : Prop := isK x = true ∨ x.toNat = 46
theorem Gd.ne {x : UInt8} (h : Gd x) : x ≠ 61 := fun e => by
  subst e
  rcases h with h | h
  · revert h; decide
  · revert h; decide
theorem isD_K (x : UInt8) (h : isD x = true) : isK x = true := by unfold isK; rw [h]; simp
theorem run_good (p : UInt8 → Bool) (hp : ∀ x, p x = true → Gd x) (l : List UInt8) (e : Nat) (h : ∀ x ∈ l.take e, Gd x) : ∀ x ∈ l.take (runE p l e), Gd x := by
  intro x hx
  unfold runE at hx
  rw [List.take_add, List.mem_append] at hx
  rcases hx with hx | hx
  · exact h x hx
  · have e1 : (l.drop e).take ((l.drop e).takeWhile p).length = (l.drop e).takeWhile p := by
      generalize l.drop e = k
      induction k with
      | nil => rfl
      | cons a k ih =>
        rw [List.takeWhile_cons]
        split
        · rw [List.length_cons, List.take_succ_cons, ih]
        · rfl
    rw [e1] at hx
    have hp' : ∀ (k : List UInt8) (y : UInt8), y ∈ k.takeWhile p → p y = true := fun k => by
      induction k with
      | nil => intro y hy; simp at hy
      | cons a k ih =>
        intro y hy
        rw [List.takeWhile_cons] at hy
        split at hy
        · rename_i ha
          rcases List.mem_cons.1 hy with e | e
          · rw [e]; exact ha
          · exact ih y e
        · simp at hy
    exact hp x (hp' _ _ hx)
theorem take_one (l : List UInt8) (e : Nat) (P : UInt8 → Prop) (h : ∀ x ∈ l.take e, P x) (h1 : e < l.length → P (l.getD e 0)) : ∀ x ∈ l.take (e + 1), P x := by
  intro x hx
  rw [List.take_add, List.mem_append] at hx
  rcases hx with hx | hx
  · exact h x hx
  · rcases Nat.lt_or_ge e l.length with he | he
    · have e1 : (l.drop e).take 1 = [l.getD e 0] := by
        rw [List.drop_eq_getElem_cons he, List.take_succ_cons, List.take_zero, List.getD_eq_getElem?_getD, List.getElem?_eq_getElem he]
        rfl
      rw [e1, List.mem_singleton] at hx
      rw [hx]
      exact h1 he
    · rw [List.drop_of_length_le he] at hx
      simp at hx
theorem num_good (l : List UInt8) (e : Nat) (h : ∀ x ∈ l.take e, Gd x) : ∀ x ∈ l.take (numE l e), Gd x := by
  unfold numE
  split
  · rename_i hc
    refine take_one l e Gd h (fun _ => Or.inl ?_)
    have : (l.getD e 0).toNat = 48 := hc.1
    unfold isK isL isD
    rw [this]
    decide
  · exact run_good isD (fun x hx => Or.inl (isD_K x hx)) l e h
theorem id_good (l : List UInt8) : ∀ (n m e : Nat), (∀ x ∈ l.take e, Gd x) → ∀ x ∈ l.take (idE l n m e).1, Gd x
  | 0, m, e, h => h
  | n + 1, m, e, h => by
    unfold idE
    split
    · exact h
    · split
      · exact num_good l e h
      · rename_i hn
        refine id_good l n (m + 1) (numE l e + 1) (take_one l _ Gd (num_good l e h) (fun _ => Or.inr ?_))
        by_cases hq : (l.getD (numE l e) 0).toNat = 46
        · exact hq
        · exact absurd (Or.inr hq) hn
theorem typ_good (l : List UInt8) : ∀ x ∈ l.take (typE l).1, Gd x := by
  unfold typE
  split
  · rename_i hc
    refine run_good isK (fun x hx => Or.inl hx) l 1 (take_one l 0 Gd (fun x hx => by simp at hx) (fun _ => Or.inl ?_))
    unfold isK
    rw [hc.2]
    rfl
  · exact id_good l _ _ _ (fun x hx => by simp at hx)
theorem nm61 : ∀ i : Fin 62, ∀ b ∈ (rowL i).1.data.toList, b ≠ 61 := by decide +kernel
/-- No canonical type holds an equals sign. -/
theorem tyC61 (s : List UInt8) (h : tyOk s = true) : 61 ∉ tyC s := by
  unfold tyOk at h
  have h := of_decide_eq_true h
  unfold tyC tyR parsT at *
  split at h
  · rename_i hc
    rw [if_pos hc]
    show 61 ∉ (canN (S (fold s))).data.toList
    unfold canN
    split
    · intro hm
      have hk := typ_good (S (fold s)).data.toList
      rw [List.take_of_length_le (by rw [size_l]; omega)] at hk
      exact (hk _ hm).ne rfl
    · rename_i i _
      exact fun hm => nm61 i _ hm rfl
  · simp at h
end Ke
end Go.Proofs.YtkknenmpdimdbaaGreatDoor

namespace Go.Proofs.YtkknenmpdimdbaaGreatDoor
namespace Ke
open TextMath (fold lo normal check)
open Go.Sort Go.Lib
set_option linter.unusedVariables false

def cfP (x y : PR) : Int := compareBytes x.1 y.1
theorem cmp_lt : ∀ a b : List UInt8, compareBytes a b < 0 ↔ a < b
  | [], [] => by simp [compareBytes]
  | [], b :: k => by simp [compareBytes]
  | a :: l, [] => by simp [compareBytes]
  | a :: l, b :: k => by
    rw [List.cons_lt_cons_iff, ← cmp_lt l k, show compareBytes (a :: l) (b :: k) = (if a < b then (-1 : Int) else if b < a then 1 else compareBytes l k) from by rw [compareBytes]]
    by_cases h1 : a < b
    · simp [h1]
    · by_cases h2 : b < a
      · have hne : a ≠ b := fun e => by subst e; exact absurd h2 (UInt8.lt_irrefl _)
        simp [h1, h2, hne]
      · have he : a = b := UInt8.le_antisymm (UInt8.not_lt.1 h2) (UInt8.not_lt.1 h1)
        subst he
        simp [h1]
theorem lt_iff (x y : PR) : ltOf cfP x y = true ↔ x.1 < y.1 := by
  unfold ltOf cfP
  rw [decide_eq_true_iff, cmp_lt]
theorem lt_no (x y : PR) : ltOf cfP x y = false ↔ y.1 ≤ x.1 := by
  rw [← Bool.not_eq_true, lt_iff]
  exact Iff.rfl
theorem swo : SWO (ltOf cfP) where
  irrefl := fun x => by rw [lt_no]; exact List.le_refl _
  trans := fun x y z h1 h2 => by rw [lt_iff] at *; exact List.lt_trans h1 h2
  ntrans := fun x y z h1 h2 => by rw [lt_no] at *; exact List.le_trans h2 h1
/-- The pairs by their types. -/
def srtP (l : List PR) : List PR := (insertionSort (ltOf cfP) l.toArray 0 l.toArray.size).toList
theorem srt_holds (l : List PR) : (srtP l).Perm l ∧ (srtP l).length = l.length ∧ (srtP l).Pairwise fun x y => x.1 ≤ y.1 := by
  obtain ⟨⟨h1, h2, h3⟩, h4⟩ := insertionSort_holds (lt := ltOf cfP) swo l.toArray 0 l.toArray.size (Nat.zero_le _) (Nat.le_refl _)
  unfold srtP
  generalize insertionSort (ltOf cfP) l.toArray 0 l.toArray.size = D at *
  have e : D.extract 0 l.toArray.size = D := by
    rw [← h1]
    simp
  rw [e] at h3
  have e2 : l.toArray.extract 0 l.toArray.size = l.toArray := by simp
  rw [e2] at h3
  refine ⟨h3, by simpa using h1, ?_⟩
  rw [List.pairwise_iff_getElem]
  intro i j hi hj hij
  have hi' : i < D.size := by simpa using hi
  have hj' : j < D.size := by simpa using hj
  have hq := h4 i j (Nat.zero_le _) hij (by rw [← h1]; exact hj')
  rw [lt_no] at hq
  rw [getElem!_pos D i hi', getElem!_pos D j hj'] at hq
  simpa using hq
/-- Two lists in order, with no type twice, of the same pairs are one. -/
theorem sorted_eq : ∀ (l k : List PR), (l.map Prod.fst).Nodup → (l.Pairwise fun x y => x.1 ≤ y.1) → (k.Pairwise fun x y => x.1 ≤ y.1) → l.Perm k → l = k
  | [], k, _, _, _, hp => (List.nil_perm.1 hp).symm
  | a :: l, [], _, _, _, hp => by simp at hp
  | a :: l, b :: k, hn, hl, hk, hp => by
    have hnk : ((b :: k).map Prod.fst).Nodup := (hp.map Prod.fst).nodup_iff.1 hn
    have hab : a = b := by
      have ha : a ∈ b :: k := hp.subset (by simp)
      have hb : b ∈ a :: l := hp.symm.subset (by simp)
      rcases List.mem_cons.1 ha with e | e
      · exact e
      · rcases List.mem_cons.1 hb with e' | e'
        · exact e'.symm
        · have h1 : a.1 ≤ b.1 := (List.pairwise_cons.1 hl).1 b e'
          have h2 : b.1 ≤ a.1 := (List.pairwise_cons.1 hk).1 a e
          have h3 : a.1 = b.1 := List.le_antisymm h1 h2
          rw [List.map_cons, List.nodup_cons] at hn
          exact absurd (by rw [h3]; exact List.mem_map_of_mem e') hn.1
    subst hab
    rw [sorted_eq l k (by rw [List.map_cons, List.nodup_cons] at hn; exact hn.2) (List.pairwise_cons.1 hl).2 (List.pairwise_cons.1 hk).2 (List.Perm.cons_inv hp)]
theorem srt_eq (l k : List PR) (hn : (l.map Prod.fst).Nodup) (hp : l.Perm k) : srtP l = srtP k := by
  obtain ⟨h1, _, h2⟩ := srt_holds l
  obtain ⟨k1, _, k2⟩ := srt_holds k
  exact sorted_eq _ _ ((h1.map Prod.fst).nodup_iff.2 hn) h2 k2 (h1.trans (hp.trans k1.symm))

def utf (v : List UInt8) : Bool := (check v).1
/-- A pair by its canonical type and its normal value. -/
def cn (p : PR) : PR := (tyC p.1, normal p.2)
/-- The pair at the place i is one that a name may have. -/
def OkI (l : List PR) (i : Nat) : Prop := ∃ h : i < l.length, tyOk l[i].1 = true ∧ tyC l[i].1 ∉ (l.take i).map (fun p => tyC p.1) ∧ utf l[i].2 = true
def OkP (l : List PR) : Prop := 1 ≤ l.length ∧ l.length ≤ 8 ∧ ∀ i, i < l.length → OkI l i
def OkD (L : List (List PR)) : Prop := L.length ≤ 64 ∧ ∀ r ∈ L, OkP r
def keyTx (l : List PR) : List UInt8 := ptx (srtP (l.map cn))
def keys (L : List (List PR)) : List (List UInt8) := (L.map keyTx).reverse
theorem okP_nodup {l : List PR} (h : OkP l) : ((l.map cn).map Prod.fst).Nodup := by
  rw [List.map_map]
  have e : (Prod.fst ∘ cn) = fun p : PR => tyC p.1 := rfl
  rw [e]
  unfold List.Nodup
  rw [List.pairwise_iff_getElem]
  intro i j hi hj hij
  have hj' : j < l.length := by simpa using hj
  obtain ⟨_, _, h2, _⟩ := h.2.2 j hj'
  intro he
  apply h2
  rw [List.getElem_map, List.getElem_map] at he
  rw [← he]
  refine List.mem_map.2 ⟨l[i], ?_, rfl⟩
  rw [List.mem_take_iff_getElem]
  exact ⟨i, by omega, rfl⟩
theorem okP_61 {l : List PR} (h : OkP l) : ∀ x ∈ srtP (l.map cn), 61 ∉ x.1 := by
  intro x hx
  obtain ⟨p, hp, rfl⟩ := List.mem_map.1 ((srt_holds (l.map cn)).1.subset hx)
  obtain ⟨i, hi, rfl⟩ := List.getElem_of_mem hp
  obtain ⟨_, h1, _⟩ := h.2.2 i hi
  exact tyC61 _ h1
/-- What the law's own 'same' says. -/
def Alike (a b : List PR) : Prop := a.length = b.length ∧ ∀ p ∈ a, ∃ q ∈ b, cn q = cn p
/-- Lists of as many, the one without doubles and all of it in the other. -/
theorem perm_of_sub : ∀ (a b : List PR), a.Nodup → (∀ x ∈ a, x ∈ b) → a.length = b.length → a.Perm b
  | [], b, _, _, hl => by
    have := List.eq_nil_of_length_eq_zero hl.symm
    subst this
    exact List.Perm.refl _
  | x :: a, b, hn, hs, hl => by
    have hx : x ∈ b := hs x (by simp)
    obtain ⟨s, t, rfl⟩ := List.append_of_mem hx
    rw [List.nodup_cons] at hn
    have hp : a.Perm (s ++ t) := perm_of_sub a (s ++ t) hn.2 (fun y hy => by
      have h1 := hs y (by simp [hy])
      have hne : y ≠ x := fun e => hn.1 (by rw [← e]; exact hy)
      simp only [List.mem_append, List.mem_cons] at h1 ⊢
      rcases h1 with h1 | h1 | h1
      · exact Or.inl h1
      · exact absurd h1 hne
      · exact Or.inr h1) (by simp at hl ⊢; omega)
    exact (hp.cons x).trans List.perm_middle.symm
theorem nodup_of_fst {l : List PR} (h : (l.map Prod.fst).Nodup) : l.Nodup := by
  unfold List.Nodup at *
  rw [List.pairwise_map] at h
  exact h.imp (fun h e => h (by rw [e]))
/-- Keys are the same just where the parts are. -/
theorem key_same {a b : List PR} (ha : OkP a) (hb : OkP b) : keyTx a = keyTx b ↔ Alike a b := by
  constructor
  · intro e
    have h1 := ptx_inj _ _ (okP_61 ha) (okP_61 hb) e
    have p1 := (srt_holds (a.map cn)).1
    have p2 := (srt_holds (b.map cn)).1
    rw [h1] at p1
    have hp : (a.map cn).Perm (b.map cn) := p1.symm.trans p2
    refine ⟨by simpa using hp.length_eq, fun p hp' => ?_⟩
    have := hp.subset (List.mem_map_of_mem (f := cn) hp')
    obtain ⟨q, hq, e⟩ := List.mem_map.1 this
    exact ⟨q, hq, e⟩
  · rintro ⟨hl, hs⟩
    unfold keyTx
    rw [srt_eq (a.map cn) (b.map cn) (okP_nodup ha)]
    refine perm_of_sub _ _ (nodup_of_fst (okP_nodup ha)) (fun x hx => ?_) (by simpa using hl)
    obtain ⟨p, hp, rfl⟩ := List.mem_map.1 hx
    obtain ⟨q, hq, e⟩ := hs p hp
    rw [← e]
    exact List.mem_map_of_mem hq
end Ke
end Go.Proofs.YtkknenmpdimdbaaGreatDoor

namespace Go.Proofs.YtkknenmpdimdbaaGreatDoor
namespace TextMath

/-- The digit of a number below 16. -/
def dg (n : Nat) : UInt8 := UInt8.ofNat (if n < 10 then 48 + n else 87 + n)
def hex (l : List UInt8) : List UInt8 := l.flatMap fun b => [dg (b.toNat / 16), dg (b.toNat % 16)]

/-- The worth of a digit. -/
def wo (b : UInt8) : Option Nat :=
  if 48 ≤ b.toNat ∧ b.toNat ≤ 57 then some (b.toNat - 48)
  else if 97 ≤ b.toNat ∧ b.toNat ≤ 102 then some (b.toNat - 87)
  else if 65 ≤ b.toNat ∧ b.toNat ≤ 70 then some (b.toNat - 55) else none

theorem dg_toNat (n : Nat) (h : n < 16) : (dg n).toNat = if n < 10 then 48 + n else 87 + n := by
  unfold dg; rw [UInt8.toNat_ofNat']; split <;> omega
theorem wo_dg (n : Nat) (h : n < 16) : wo (dg n) = some n := by
  have := dg_toNat n h
  unfold wo; rw [this]
  by_cases h' : n < 10
  · rw [if_pos h', if_pos (by omega)]; congr 1; omega
  · rw [if_neg h', if_neg (by omega), if_pos (by omega)]; congr 1; omega
theorem wo_lt (b : UInt8) (n : Nat) (h : wo b = some n) : n < 16 := by
  unfold wo at h
  repeat' split at h
  all_goals first | (injection h with h; omega) | cases h

/-- Unhex: the bytes, or the place. -/
def unhex : List UInt8 → Nat → Except Nat (List UInt8)
  | [], _ => .ok []
  | [a], k => match wo a with
    | none => .error k
    | some _ => .error (k + 1)
  | a :: b :: t, k => match wo a, wo b with
    | none, _ => .error k
    | some _, none => .error (k + 1)
    | some x, some y => match unhex t (k + 2) with
      | .ok r => .ok (UInt8.ofNat (16 * x + y) :: r)
      | .error p => .error p

def pre (o : List UInt8) : Except Nat (List UInt8) → Except Nat (List UInt8)
  | .ok t => .ok (o ++ t)
  | .error p => .error p
theorem pre_nil (r : Except Nat (List UInt8)) : pre [] r = r := by cases r <;> rfl
theorem pre_pre (o p : List UInt8) (r : Except Nat (List UInt8)) : pre o (pre p r) = pre (o ++ p) r := by cases r <;> simp [pre]
theorem unhex_bad (a : UInt8) (t : List UInt8) (k : Nat) (h : wo a = none) : unhex (a :: t) k = .error k := by
  cases t with
  | nil => simp [unhex, h]
  | cons b r => simp [unhex, h]
theorem unhex_odd (a : UInt8) (k : Nat) (x : Nat) (h : wo a = some x) : unhex [a] k = .error (k + 1) := by simp [unhex, h]
theorem unhex_bad2 (a b : UInt8) (t : List UInt8) (k x : Nat) (h : wo a = some x) (hb : wo b = none) : unhex (a :: b :: t) k = .error (k + 1) := by simp [unhex, h, hb]
theorem unhex_pair (a b : UInt8) (t : List UInt8) (k x y : Nat) (h : wo a = some x) (hb : wo b = some y) : unhex (a :: b :: t) k = pre [UInt8.ofNat (16 * x + y)] (unhex t (k + 2)) := by
  simp only [unhex, h, hb]
  cases unhex t (k + 2) <;> rfl
end TextMath
end Go.Proofs.YtkknenmpdimdbaaGreatDoor

namespace Go.Proofs.YtkknenmpdimdbaaGreatDoor
namespace Pa
open TextMath (fold lo normal check wo)
open Ke (tyOk tyC utf PR)
set_option linter.unusedVariables false

/-- May the byte stand in a type? -/
def tb (c : UInt8) : Bool := decide (97 ≤ c.toNat ∧ c.toNat ≤ 122) || decide (65 ≤ c.toNat ∧ c.toNat ≤ 90) || decide (48 ≤ c.toNat ∧ c.toNat ≤ 57) || decide (c.toNat = 45) || decide (c.toNat = 46)
def hd (c : UInt8) : Bool := (wo c).isSome
def hb (a b : UInt8) : UInt8 := UInt8.ofNat (16 * (wo a).getD 0 + (wo b).getD 0)
/-- Bytes that mean themselves behind a backslash. -/
def esL : List UInt8 := [92, 34, 43, 44, 59, 60, 62, 35, 61, 32]
def es (c : UInt8) : Bool := esL.contains c
/-- Bytes that must be escaped. -/
def bar (c : UInt8) : Bool := c == 0 || c == 34 || c == 59 || c == 60 || c == 62
/-- What a backslash with this behind it is: 1 lame, 3 coded, 4 escaped. -/
def kB : List UInt8 → Nat
  | [] => 1
  | a :: r => if es a = true then 4 else match r with
    | [] => 1
    | b :: _ => if (hd a && hd b) = true then 3 else 1
/-- What a value goes on with: 0 it ends, 2 barred, 5 plain, 6 a space. -/
def kO : List UInt8 → Nat
  | [] => 0
  | c :: r => if c = 44 ∨ c = 43 then 0 else if c = 92 then kB r else if bar c = true then 2 else if c = 32 then 6 else 5
abbrev VR := Except (Nat × Nat) (List UInt8 × List UInt8)
/-- A value that is written as it is, or escaped: what is read of it, how much of that counts. -/
def tv : Nat → List UInt8 → List UInt8 → Nat → VR
  | 0, l, a, c => .error (0, l.length)
  | n + 1, l, a, c =>
    if kO l = 0 then .ok (a.take c, l)
    else if kO l = 1 then .error (54, l.length)
    else if kO l = 2 then .error (55, l.length)
    else if kO l = 3 then tv n (l.drop 3) (a ++ [hb (l.getD 1 0) (l.getD 2 0)]) (a.length + 1)
    else if kO l = 4 then tv n (l.drop 2) (a ++ [l.getD 1 0]) (a.length + 1)
    else if kO l = 5 then tv n (l.drop 1) (a ++ [l.getD 0 0]) (a.length + 1)
    else tv n (l.drop 1) (a ++ [l.getD 0 0]) c
/-- A value, the one behind a # told by hx. -/
def pv (hx : List UInt8 → Option VR) (l : List UInt8) : Option VR :=
  (if l.head? = some 35 then hx (l.drop 1) else some (tv (l.length + 1) l [] 0)).map fun v => match v with
    | .error e => .error e
    | .ok x => if utf x.1 = true then .ok x else .error (51, l.length)
def sp (l : List UInt8) : List UInt8 := l.dropWhile (· == 32)
/-- A type and its equals sign. -/
def pt (ahead : List (List UInt8)) (l : List UInt8) : VR :=
  if tyOk (l.takeWhile tb) = false then .error (52, l.length)
  else if tyC (l.takeWhile tb) ∈ ahead then .error (57, l.length)
  else if (sp (l.dropWhile tb)).head? = some 61 then .ok (l.takeWhile tb, sp ((sp (l.dropWhile tb)).drop 1))
  else .error (53, (sp (l.dropWhile tb)).length)
abbrev PRs := Except (Nat × Nat) (List PR × List UInt8)
/-- A part's pairs. -/
def prt (hx : List UInt8 → Option VR) : Nat → Nat → List PR → List UInt8 → Option PRs
  | 0, _, _, _ => none
  | n + 1, num, ps, l =>
    if num = 64 ∨ ps.length = 8 then some (.error (58, (sp l).length))
    else match pt (ps.map fun p => tyC p.1) (sp l) with
      | .error e => some (.error e)
      | .ok x => match pv hx x.2 with
        | none => none
        | some (.error e) => some (.error e)
        | some (.ok y) => if y.2.head? = some 43 then prt hx n num (ps ++ [(x.1, y.1)]) (y.2.drop 1) else some (.ok (ps ++ [(x.1, y.1)], y.2))
abbrev DRs := Except (Nat × Nat) (List (List PR))
/-- All parts. -/
def nmP (hx : List UInt8 → Option VR) : Nat → List (List PR) → List UInt8 → Option DRs
  | 0, _, _ => none
  | n + 1, D, l => match prt hx 9 D.length [] l with
    | none => none
    | some (.error e) => some (.error e)
    | some (.ok x) => if x.2.head? = some 44 then nmP hx n (D ++ [x.1]) (x.2.drop 1) else some (.ok (D ++ [x.1]))
/-- A name's text; an error with what is left of the text at its place. -/
def prs (hx : List UInt8 → Option VR) (s : List UInt8) : Option DRs :=
  if 4096 < s.length then some (.error (50, s.length - 4096))
  else if utf s = false then some (.error (51, s.length - (check s).2))
  else if s = [] then some (.ok [])
  else nmP hx 65 [] s
theorem tv_step (n : Nat) (l a : List UInt8) (c : Nat) : tv (n + 1) l a c = if kO l = 0 then .ok (a.take c, l)
    else if kO l = 1 then .error (54, l.length)
    else if kO l = 2 then .error (55, l.length)
    else if kO l = 3 then tv n (l.drop 3) (a ++ [hb (l.getD 1 0) (l.getD 2 0)]) (a.length + 1)
    else if kO l = 4 then tv n (l.drop 2) (a ++ [l.getD 1 0]) (a.length + 1)
    else if kO l = 5 then tv n (l.drop 1) (a ++ [l.getD 0 0]) (a.length + 1)
    else tv n (l.drop 1) (a ++ [l.getD 0 0]) c := rfl
end Pa
end Go.Proofs.YtkknenmpdimdbaaGreatDoor

namespace Go.Proofs.YtkknenmpdimdbaaGreatDoor
namespace DnMath

/-- A way to compare in three answers that is a total order. -/
def Tot {α : Type} (T : α → α → Int) : Prop :=
  (∀ x y, T x y = -1 ∨ T x y = 0 ∨ T x y = 1) ∧ (∀ x y, T x y = 0 ↔ x = y) ∧ (∀ x y, T y x = - T x y) ∧ (∀ x y z, T x y ≤ 0 → T y z ≤ 0 → T x z ≤ 0)
/-- Lists, by the first that differ; else the shorter one ahead. -/
def lx {α : Type} (T : α → α → Int) : List α → List α → Int
  | [], [] => 0
  | [], _ :: _ => -1
  | _ :: _, [] => 1
  | x :: a, y :: b => if T x y = 0 then lx T a b else T x y

variable {α : Type} {T : α → α → Int}
theorem Tot.self (h : Tot T) (x : α) : T x x = 0 := (h.2.1 x x).2 rfl
theorem lx_range (h : Tot T) : ∀ a b, lx T a b = -1 ∨ lx T a b = 0 ∨ lx T a b = 1
  | [], [] => Or.inr (Or.inl rfl)
  | [], _ :: _ => Or.inl rfl
  | _ :: _, [] => Or.inr (Or.inr rfl)
  | x :: a, y :: b => by
    unfold lx
    split
    · exact lx_range h a b
    · exact h.1 x y
theorem lx_eq (h : Tot T) : ∀ a b, lx T a b = 0 ↔ a = b
  | [], [] => by simp [lx]
  | [], _ :: _ => by simp [lx]
  | _ :: _, [] => by simp [lx]
  | x :: a, y :: b => by
    unfold lx
    split
    · rename_i e
      rw [lx_eq h a b, (h.2.1 x y).1 e]
      simp
    · rename_i e
      have hn : ¬ x = y := fun q => e ((h.2.1 x y).2 q)
      constructor
      · intro q; exact absurd q e
      · intro q; injection q with q1 _; exact absurd q1 hn
theorem lx_anti (h : Tot T) : ∀ a b, lx T b a = - lx T a b
  | [], [] => by simp [lx]
  | [], _ :: _ => by simp [lx]
  | _ :: _, [] => by simp [lx]
  | x :: a, y :: b => by
    unfold lx
    have e := h.2.2.1 x y
    by_cases q : T x y = 0
    · rw [if_pos q, if_pos (by omega)]
      exact lx_anti h a b
    · rw [if_neg q, if_neg (by omega)]
      exact e
theorem lx_trans (h : Tot T) : ∀ a b c, lx T a b ≤ 0 → lx T b c ≤ 0 → lx T a c ≤ 0
  | [], _, [] => by simp [lx]
  | [], _, _ :: _ => by simp [lx]
  | _ :: _, [], _ => by simp [lx]
  | _ :: _, _ :: _, [] => by simp [lx]
  | x :: a, y :: b, z :: c => by
    unfold lx
    intro h1 h2
    by_cases q : T x y = 0
    · have e := (h.2.1 x y).1 q
      subst e
      rw [if_pos q] at h1
      by_cases r : T x z = 0
      · rw [if_pos r] at h2 ⊢
        exact lx_trans h a b c h1 h2
      · rw [if_neg r] at h2 ⊢
        exact h2
    · rw [if_neg q] at h1
      by_cases r : T y z = 0
      · have e := (h.2.1 y z).1 r
        subst e
        rw [if_neg q]
        exact h1
      · rw [if_neg r] at h2
        have k := h.2.2.2 x y z h1 h2
        have hn : ¬ T x z = 0 := by
          intro e
          have e' := (h.2.1 x z).1 e
          subst e'
          have := h.2.2.1 x y
          omega
        rw [if_neg hn]
        exact k
theorem lx_tot (h : Tot T) : Tot (lx T) := ⟨lx_range h, lx_eq h, fun a b => lx_anti h a b, lx_trans h⟩
theorem lx_front (h : Tot T) (c : List α) : ∀ a, lx T a (a ++ c) = if c = [] then 0 else -1
  | [] => by cases c <;> simp [lx]
  | x :: a => by
    rw [List.cons_append]
    unfold lx
    rw [if_pos (h.self x)]
    exact lx_front h c a
/-- What stands between two that begin with 'p' begins with 'p'. -/
theorem lx_between (h : Tot T) : ∀ (p a b c : List α), lx T (p ++ a) b ≤ 0 → lx T b (p ++ c) ≤ 0 → p <+: b
  | [], _, b, _ => fun _ _ => ⟨b, rfl⟩
  | x :: p, _, [], _ => by
    intro h1 _
    rw [List.cons_append] at h1
    simp [lx] at h1
  | x :: p, a, y :: b, c => by
    intro h1 h2
    rw [List.cons_append] at h1 h2
    unfold lx at h1 h2
    have e := h.2.2.1 x y
    by_cases q : T x y = 0
    · rw [if_pos q] at h1
      rw [if_pos (by omega)] at h2
      obtain ⟨r, hr⟩ := lx_between h p a b c h1 h2
      have e2 := (h.2.1 x y).1 q
      subst e2
      exact ⟨r, by rw [← hr]; rfl⟩
    · rw [if_neg q] at h1
      rw [if_neg (by omega)] at h2
      exfalso
      have := h.1 x y
      omega

/-- Bytes. -/
def tb (x y : UInt8) : Int := if x < y then -1 else if y < x then 1 else 0
theorem tb_tot : Tot tb := by
  have key : ∀ x y : UInt8, (x < y ↔ x.toNat < y.toNat) := fun x y => UInt8.lt_iff_toNat_lt
  refine ⟨?_, ?_, ?_, ?_⟩
  · intro x y
    unfold tb
    by_cases h1 : x < y
    · rw [if_pos h1]; omega
    · rw [if_neg h1]
      by_cases h2 : y < x
      · rw [if_pos h2]; omega
      · rw [if_neg h2]; omega
  · intro x y
    unfold tb
    simp only [key]
    constructor
    · intro q
      have : x.toNat = y.toNat := by
        by_cases h1 : x.toNat < y.toNat
        · rw [if_pos h1] at q; omega
        · rw [if_neg h1] at q
          by_cases h2 : y.toNat < x.toNat
          · rw [if_pos h2] at q; omega
          · omega
      exact UInt8.toNat_inj.1 this
    · rintro rfl; simp
  · intro x y
    unfold tb
    simp only [key]
    by_cases h1 : x.toNat < y.toNat
    · rw [if_pos h1, if_neg (by omega), if_pos h1]; rfl
    · by_cases h2 : y.toNat < x.toNat
      · rw [if_pos h2, if_neg h1, if_pos h2]
      · rw [if_neg h2, if_neg h1, if_neg h1, if_neg h2]; rfl
  · intro x y z
    unfold tb
    simp only [key]
    intro a b
    by_cases h1 : x.toNat < z.toNat
    · rw [if_pos h1]; omega
    · by_cases h2 : z.toNat < x.toNat
      · exfalso
        by_cases h3 : x.toNat < y.toNat
        · by_cases h4 : y.toNat < z.toNat
          · omega
          · rw [if_neg h4, if_pos (by omega)] at b; omega
        · rw [if_neg h3] at a
          by_cases h4 : y.toNat < x.toNat
          · rw [if_pos h4] at a; omega
          · rw [if_neg (by omega), if_pos (by omega)] at b; omega
      · rw [if_neg h1, if_neg h2]; omega
/-- Texts. -/
def tt : List UInt8 → List UInt8 → Int := lx tb
theorem tt_tot : Tot tt := lx_tot tb_tot
/-- Keys. -/
def ck : List (List UInt8) → List (List UInt8) → Int := lx tt
theorem ck_tot : Tot ck := lx_tot tt_tot
theorem less_tt : ∀ x y : List UInt8, Op.bytesLess x y = decide (tt x y = -1)
  | [], [] => by simp [Op.bytesLess, tt, lx]
  | _ :: _, [] => by simp [Op.bytesLess, tt, lx]
  | [], _ :: _ => by simp [Op.bytesLess, tt, lx]
  | a :: x, b :: y => by
    have ih := less_tt x y
    have e : tt (a :: x) (b :: y) = if tb a b = 0 then tt x y else tb a b := rfl
    rw [e]
    unfold Op.bytesLess
    by_cases q : tb a b = 0
    · have hab := (tb_tot.2.1 a b).1 q
      subst hab
      rw [if_pos q, ← ih]
      simp
    · rw [if_neg q]
      have hab : ¬ a = b := fun z => q ((tb_tot.2.1 a b).2 z)
      unfold tb at q ⊢
      by_cases h1 : a < b
      · simp [h1]
      · by_cases h2 : b < a
        · simp [h1, h2, hab]
        · simp [h1, h2] at q
end DnMath
end Go.Proofs.YtkknenmpdimdbaaGreatDoor

namespace Go.Proofs.YtkknenmpdimdbaaGreatDoor
open Go.RowKit
open DnMath (Tot lx tb tt ck tb_tot tt_tot ck_tot less_tt lx_front lx_between)
set_option maxRecDepth 100000

theorem add_off (b o j : Nat) : (⟨b, o, none⟩ : Addr).add j = ⟨b, o + j, none⟩ := by
  unfold Addr.add
  by_cases h : j = 0
  · subst h; rfl
  · simp [h]
/-- Texts as cells. -/
def sv (l : List (List UInt8)) : List Value := l.map fun m => .string (S m)
theorem sv_len (l : List (List UInt8)) : (sv l).length = l.length := by simp [sv]
theorem sv_snoc (l : List (List UInt8)) (m : List UInt8) : sv (l ++ [m]) = sv l ++ [.string (S m)] := by simp [sv]
theorem sv_app (l k : List (List UInt8)) : sv (l ++ k) = sv l ++ sv k := by simp [sv]
theorem sv_one (l : List (List UInt8)) : ∀ u ∈ sv l, u.oneCell' = true := by
  intro u hu
  simp only [sv, List.mem_map] at hu
  obtain ⟨b, _, rfl⟩ := hu
  rfl
theorem info_str : (Tryz.prog.info? 9).map (fun i => (i.zero, i.size, i.bytes)) = some (some (.string ⟨#[]⟩), 1, 16) := by kernel_rfl
/-- A list of texts of the call's own. -/
def OwnS (W : World) (B : Nat) (v : Value) (l : List (List UInt8)) : Prop := W.ownsRow B 9 1 v l.length (sv l)
theorem ownS_nil (W : World) (B : Nat) : OwnS W B (.slice none 0 0) [] := ⟨rfl, Or.inl ⟨rfl, rfl⟩⟩
theorem ownS_below {w w' : World} {B : Nat} {v : Value} {l : List (List UInt8)} (h : OwnS w B v l) (hb : Below w.heap.size w w') : OwnS w' B v l := by
  rcases h with ⟨h1, ⟨rfl, h2⟩ | ⟨g, cap, cur, rfl, h3, h4, h5⟩⟩
  · exact ⟨h1, Or.inl ⟨rfl, h2⟩⟩
  · have hg : g < w.heap.size := by
      rcases Nat.lt_or_ge g w.heap.size with h' | h'
      · exact h'
      · rw [Array.getElem?_eq_none h'] at h4; cases h4
    exact ⟨h1, Or.inr ⟨g, cap, cur, rfl, h3, by rw [hb.block g hg]; exact h4, h5⟩⟩
theorem ownS_form {w : World} {B : Nat} {v : Value} {l : List (List UInt8)} (h : OwnS w B v l) : (v = .slice none 0 0 ∧ l = []) ∨ (∃ g cap, v = .slice (some ⟨g, 0, none⟩) l.length cap ∧ l.length ≤ cap ∧ g < w.heap.size ∧ B ≤ g) := by
  have hl := h.1
  rcases h.2 with ⟨rfl, hn⟩ | ⟨g, cap, cur, rfl, h3, h4, h5, _⟩
  · exact Or.inl ⟨rfl, List.eq_nil_of_length_eq_zero hn⟩
  · refine Or.inr ⟨g, cap, rfl, h5, ?_, h3⟩
    rcases Nat.lt_or_ge g w.heap.size with h' | h'
    · exact h'
    · rw [Array.getElem?_eq_none h'] at h4; cases h4
theorem ownS_cell {w : World} {B g cap : Nat} {l : List (List UInt8)} (h : OwnS w B (.slice (some ⟨g, 0, none⟩) l.length cap) l) (i : Nat) (hi : i < l.length) : w.cell? ⟨g, i, none⟩ = some (.string (S l[i])) := by
  have hc := World.ownsRow.cellAt (show w.ownsRow B 9 1 _ l.length (sv l) from h) i (by omega)
  rw [hc]
  simp [sv, hi]
/-- A row of texts, wherever it lies. -/
def Row (w : World) (a : Option Addr) (l : List (List UInt8)) : Prop := ∀ i (hi : i < l.length), ∃ b off, a = some ⟨b, off, none⟩ ∧ w.cell? ⟨b, off + i, none⟩ = some (.string (S l[i]))
theorem Row.below {w w' : World} {a : Option Addr} {l : List (List UInt8)} (h : Row w a l) (hb : Below w.heap.size w w') : Row w' a l := fun i hi => by
  obtain ⟨b, off, e, h1⟩ := h i hi
  refine ⟨b, off, e, ?_⟩
  rw [hb.cell (World.block_lt_of_cell? w _ h1)]
  exact h1
theorem Row.drewN {w : World} {a : Option Addr} {l : List (List UInt8)} (h : Row w a l) (k : Nat) : Row (w.drewN k) a l := fun i hi => by
  obtain ⟨b, off, e, h1⟩ := h i hi
  exact ⟨b, off, e, h1⟩
theorem Row.front {w : World} {a : Option Addr} {l k : List (List UInt8)} (h : Row w a (l ++ k)) : Row w a l := fun i hi => by
  obtain ⟨b, off, e, h1⟩ := h i (by rw [List.length_append]; omega)
  refine ⟨b, off, e, ?_⟩
  rw [h1, List.getElem_append_left hi]
theorem Row.nil (w : World) (a : Option Addr) : Row w a [] := fun i hi => by simp at hi
theorem ownS_row {w : World} {B n c : Nat} {a : Option Addr} {l : List (List UInt8)} (h : OwnS w B (.slice a n c) l) : Row w a l ∧ n = l.length := by
  rcases ownS_form h with ⟨h1, rfl⟩ | ⟨g, cap, h1, _⟩
  · injection h1 with h1 h2
    exact ⟨Row.nil _ _, h2⟩
  · injection h1 with h1 h2 h3
    subst h1 h2 h3
    exact ⟨fun i hi => ⟨g, 0, rfl, by rw [Nat.zero_add]; exact ownS_cell h i hi⟩, rfl⟩
/-- A row appended to a row of the call's own. -/
theorem append_row (w : World) (B : Nat) (v : Value) (l k : List (List UInt8)) (a : Option Addr) (n c : Nat) (hown : OwnS w B v l) (hk : Row w a k) (hn : n = k.length) (hB : B ≤ w.heap.size) (hsz : (l.length + k.length) * 16 ≤ 140737488355328) :
    ∃ v' w', (Builtin.append_ #[36, 36] 36 #[v, .slice a n c]).run Tryz.prog w = .ok v' w' ∧ OwnS w' B v' (l ++ k) ∧ Below B w w' := by
  subst hn
  obtain ⟨i0, hi, hz0, hz1, hz2⟩ := info_parts info_str
  by_cases h0 : k.length = 0
  · have hk0 := List.eq_nil_of_length_eq_zero h0
    subst hk0
    refine ⟨v, w, ?_, by rw [List.append_nil]; exact hown, Below.refl _ _⟩
    cases a with
    | none =>
      rcases ownS_form hown with ⟨rfl, rfl⟩ | ⟨g, cap, rfl, hc, _⟩
      · simp [Builtin.append_, run_underlying Tryz.underlying36, sizeOf, typeInfo, hi, Builtin.lenOf, Builtin.firstCells]
      · simp [Builtin.append_, run_underlying Tryz.underlying36, sizeOf, typeInfo, hi, Builtin.lenOf, Builtin.firstCells, hc, storeCells]
    | some d =>
      rcases ownS_form hown with ⟨rfl, rfl⟩ | ⟨g, cap, rfl, hc, _⟩
      · simp [Builtin.append_, run_underlying Tryz.underlying36, sizeOf, typeInfo, hi, Builtin.lenOf, Builtin.firstCells, loadCells, loadCellsFrom]
      · simp [Builtin.append_, run_underlying Tryz.underlying36, sizeOf, typeInfo, hi, Builtin.lenOf, Builtin.firstCells, loadCells, loadCellsFrom, hc, storeCells]
  · obtain ⟨b, off, rfl, _⟩ := hk 0 (by omega)
    have hnews : ∀ j u, (sv k)[j]? = some u → w.cell? ((⟨b, off, none⟩ : Addr).add j) = some u := by
      intro j u hj
      have hjn : j < k.length := by
        rcases Nat.lt_or_ge j k.length with h' | h'
        · exact h'
        · rw [List.getElem?_eq_none (by rw [sv_len]; exact h')] at hj; cases hj
      obtain ⟨b', off', e, hc⟩ := hk j hjn
      injection e with e
      injection e with e1 e2
      subst e1 e2
      rw [add_off, hc, ← hj]
      simp [sv, hjn]
    obtain ⟨g, cap, w', hr, h2, h3, _, _⟩ := run_append_lies (P := Tryz.prog) w 36 36 B 9 i0 _ 1 16 Tryz.underlying36 hi hz0 hz1 hz2 rfl (by decide) v l.length (sv l) hown ⟨b, off, none⟩ k.length c (sv k) (by rw [sv_len, Nat.mul_one]) hnews (sv_one _) (by omega) (by unfold maxLen; omega) hsz hB w.heap.size rfl
    refine ⟨_, w', hr, ?_, (Below.refl _ _).grown h3 hB (fun j hj => (World.ownsRow.lt (show w.ownsRow B 9 1 v l.length (sv l) from hown) _ hj).1)⟩
    unfold OwnS
    rw [sv_app, List.length_append]
    exact h2
end Go.Proofs.YtkknenmpdimdbaaGreatDoor
