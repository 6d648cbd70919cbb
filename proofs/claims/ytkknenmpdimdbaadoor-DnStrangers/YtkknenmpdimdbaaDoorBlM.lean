import Derived.Test.YtkknenmpdimdbaaDoorKeN
namespace Go.Proofs.YtkknenmpdimdbaaDoor
namespace Bl
open TextMath (fold check lo seqLen ld wi u bl sqA sqB normal normal_eq check_good check_bad check_ind check_app_good ld_cases seqLen_le)
open Ke (utf cn tyOk tyC tyR OkI OkP OkD keyTx keys Alike key_same PR)
set_option linter.unusedVariables false

def Low (f : UInt8 → UInt8) : Prop := f 0 = 0 ∧ ∀ c, f c = c ∨ (c.toNat < 128 ∧ (f c).toNat < 128)
theorem low_of (f : UInt8 → UInt8) (h : ∀ n : Fin 256, f (UInt8.ofNat n.val) = UInt8.ofNat n.val ∨ ((UInt8.ofNat n.val).toNat < 128 ∧ (f (UInt8.ofNat n.val)).toNat < 128)) (h0 : f 0 = 0) : Low f := ⟨h0, fun c => by
  have := h ⟨c.toNat, c.toNat_lt⟩
  simpa using this⟩
theorem low_lo : Low lo := low_of lo (by decide +kernel) rfl
theorem ld_low (b : Int) (h : (ld b).1 = 4 ∨ (ld b).1 = 3 ∨ (ld b).1 = 2) : 128 ≤ (ld b).2.1 := by
  revert h
  unfold ld
  repeat' split
  all_goals simp
theorem wi_same {f : UInt8 → UInt8} (hf : Low f) (c : UInt8) (lo hi : Int) (h : 128 ≤ lo) : wi (u (f c)) lo hi = wi (u c) lo hi := by
  rcases hf.2 c with e | ⟨h1, h2⟩
  · rw [e]
  · unfold wi u
    rw [Bool.eq_iff_iff]
    simp only [Bool.and_eq_true, decide_eq_true_eq]
    constructor
    · intro h; omega
    · intro h; omega
theorem ld_same {f : UInt8 → UInt8} (hf : Low f) (c : UInt8) : ld (u (f c)) = ld (u c) := by
  rcases hf.2 c with e | ⟨h1, h2⟩
  · rw [e]
  · unfold ld u
    rw [if_pos (by omega), if_pos (by omega)]
theorem getD_map {f : UInt8 → UInt8} (hf : Low f) (l : List UInt8) (i : Nat) : (l.map f).getD i 0 = f (l.getD i 0) := by
  simp only [List.getD, List.getElem?_map]
  cases l[i]? with
  | none => exact hf.1.symm
  | some c => rfl
theorem seq_map {f : UInt8 → UInt8} (hf : Low f) (l : List UInt8) : seqLen (l.map f) = seqLen l := by
  unfold seqLen
  simp only [List.length_map, getD_map hf, ld_same hf, wi_same hf _ 128 191 (by decide)]
  have e : (((ld (u (l.getD 0 0))).1 = 4 ∨ (ld (u (l.getD 0 0))).1 = 3 ∨ (ld (u (l.getD 0 0))).1 = 2) ∧ wi (u (f (l.getD 1 0))) (ld (u (l.getD 0 0))).2.1 (ld (u (l.getD 0 0))).2.2 = false) ↔ (((ld (u (l.getD 0 0))).1 = 4 ∨ (ld (u (l.getD 0 0))).1 = 3 ∨ (ld (u (l.getD 0 0))).1 = 2) ∧ wi (u (l.getD 1 0)) (ld (u (l.getD 0 0))).2.1 (ld (u (l.getD 0 0))).2.2 = false) :=
    and_congr_right fun h => by rw [wi_same hf _ _ _ (ld_low _ h)]
  simp only [e]
theorem check_map {f : UInt8 → UInt8} (hf : Low f) (l : List UInt8) : check (l.map f) = check l := by
  refine TextMath.check_ind (M := fun l => check (l.map f) = check l) ?_ ?_ ?_ l.length l (Nat.le_refl _)
  · rfl
  · intro l h0 h1
    rw [TextMath.check_bad l h0 h1, TextMath.check_bad (l.map f) (by rw [List.length_map]; exact h0) (by rw [seq_map hf]; exact h1)]
  · intro l h1 ih
    rw [TextMath.check_good l h1, TextMath.check_good (l.map f) (by rw [seq_map hf]; exact h1), seq_map hf, ← List.map_drop, ih]
theorem check_fold (l : List UInt8) : check (fold l) = check l := check_map low_lo l
theorem fold_same_check {a b : List UInt8} (h : fold a = fold b) : check a = check b := by rw [← check_fold a, h, check_fold b]
theorem fold_same_normal {a b : List UInt8} (h : fold a = fold b) : normal a = normal b := by rw [normal_eq, normal_eq, h]
theorem fold_same_ty {a b : List UInt8} (h : fold a = fold b) : tyR a = tyR b := by unfold tyR; rw [h]
theorem lo_flip (c : UInt8) (h : (97 ≤ c.toNat ∧ c.toNat ≤ 122) ∨ (65 ≤ c.toNat ∧ c.toNat ≤ 90)) : lo (c ^^^ 32) = lo c := by
  have key : ∀ n : Fin 256, ((97 ≤ (UInt8.ofNat n.val).toNat ∧ (UInt8.ofNat n.val).toNat ≤ 122) ∨ (65 ≤ (UInt8.ofNat n.val).toNat ∧ (UInt8.ofNat n.val).toNat ≤ 90)) → lo ((UInt8.ofNat n.val) ^^^ 32) = lo (UInt8.ofNat n.val) := by decide +kernel
  have h2 := key ⟨c.toNat, c.toNat_lt⟩
  rw [UInt8.ofNat_toNat] at h2
  exact h2 h
/-- A blank, and what may be put behind it. -/
def bk (f : Bool) (c : UInt8) : List UInt8 := if c = 32 ∧ f = true then [32, 10, 32] else [c]
theorem sqB_bk (f : Bool) : ∀ (l : List UInt8) (p : Bool), sqB p (l.flatMap (bk f)) = sqB p l
  | [], p => rfl
  | c :: l, p => by
    have ih := sqB_bk f l
    rw [List.flatMap_cons]
    unfold bk
    split
    · rename_i h
      obtain ⟨rfl, _⟩ := h
      show sqB p (32 :: 10 :: 32 :: (l.flatMap (bk f))) = sqB p (32 :: l)
      simp only [sqB]
      have b1 : bl 32 = true := by decide
      have b2 : bl 10 = true := by decide
      simp [b1, b2, ih]
    · show sqB p (c :: (l.flatMap (bk f))) = sqB p (c :: l)
      simp only [sqB]
      simp [ih]
theorem sqA_bk (f : Bool) : ∀ (l : List UInt8), sqA (l.flatMap (bk f)) = sqA l
  | [] => rfl
  | c :: l => by
    have ih := sqA_bk f l
    have ih2 := sqB_bk f l
    rw [List.flatMap_cons]
    unfold bk
    split
    · rename_i h
      obtain ⟨rfl, _⟩ := h
      show sqA (32 :: 10 :: 32 :: (l.flatMap (bk f))) = sqA (32 :: l)
      simp only [sqA]
      have b1 : bl 32 = true := by decide
      have b2 : bl 10 = true := by decide
      simp [b1, b2, ih]
    · show sqA (c :: (l.flatMap (bk f))) = sqA (c :: l)
      simp only [sqA]
      simp [ih, ih2]
theorem fold_bk (f : Bool) (l : List UInt8) : fold (l.flatMap (bk f)) = (fold l).flatMap (bk f) := by
  induction l with
  | nil => rfl
  | cons c l ih =>
    rw [List.flatMap_cons, TextMath.fold_app, ih, show fold (c :: l) = lo c :: fold l from rfl, List.flatMap_cons]
    congr 1
    unfold bk
    by_cases h : c = 32
    · subst h
      have : lo 32 = 32 := by decide
      rw [this]
      cases f <;> rfl
    · have h2 : lo c ≠ 32 := by
        intro e
        have hb : bl (lo c) = true := by rw [e]; decide
        have : (lo c).toNat = 32 := by rw [e]; rfl
        rw [TextMath.lo_toNat] at this
        split at this
        · omega
        · exact h (UInt8.toNat_inj.1 this)
      simp [h, h2, fold]
theorem sq_left (c : UInt8) (l : List UInt8) (h : bl c = true) : sqA (c :: l) = sqA l := by
  simp [sqA, h]
theorem sq_right (l : List UInt8) (c : UInt8) (h : bl c = true) : sqA (l ++ [c]) = sqA l := by
  rw [TextMath.sqA_app l [] c h]
  unfold TextMath.join
  simp [sqA]
/-- A value with other blanks. -/
def blk (b1 b2 b3 : Bool) (v : List UInt8) : List UInt8 := (if b1 = true then [9] else []) ++ v.flatMap (bk b2) ++ (if b3 = true then [32, 13] else [])
theorem normal_blk (b1 b2 b3 : Bool) (v : List UInt8) : normal (blk b1 b2 b3 v) = normal v := by
  have e3 : ∀ l : List UInt8, sqA (l ++ [32, 13]) = sqA l := fun l => by
    rw [show l ++ [32, 13] = (l ++ [32]) ++ [13] from by simp, sq_right _ 13 (by decide), sq_right _ 32 (by decide)]
  have f9 : fold [9] = [9] := by decide
  have f13 : fold [32, 13] = [32, 13] := by decide
  rw [normal_eq, normal_eq]
  unfold blk
  rw [TextMath.fold_app, TextMath.fold_app, fold_bk]
  cases b1 <;> cases b3
  · simp [fold, sqA_bk]
  · rw [if_pos rfl, f13, e3]
    simp [fold, sqA_bk]
  · rw [if_pos rfl, f9]
    simp only [Bool.false_eq_true, if_false]
    rw [show fold [] = [] from rfl, List.append_nil, List.singleton_append, sq_left _ _ (by decide), sqA_bk]
  · rw [if_pos rfl, if_pos rfl, f9, f13, e3, List.singleton_append, sq_left _ _ (by decide), sqA_bk]
theorem blk_len (b1 b2 b3 : Bool) (v : List UInt8) : (blk b1 b2 b3 v).length ≤ 3 * v.length + 3 := by
  have h : ∀ l : List UInt8, (l.flatMap (bk b2)).length ≤ 3 * l.length := by
    intro l
    induction l with
    | nil => simp
    | cons c l ih =>
      rw [List.flatMap_cons, List.length_append, List.length_cons]
      have : (bk b2 c).length ≤ 3 := by unfold bk; split <;> simp
      omega
  have := h v
  unfold blk
  rw [List.length_append, List.length_append]
  generalize (v.flatMap (bk b2)).length = m at *
  cases b1 <;> cases b3 <;> simp <;> omega
theorem ld_hi (b : Int) (h : (ld b).1 = 4 ∨ (ld b).1 = 3 ∨ (ld b).1 = 2) : 128 ≤ b := by
  unfold ld at h
  by_cases h0 : b ≤ 127
  · rw [if_pos h0] at h
    simp at h
  · omega
theorem seq_high (l : List UInt8) (h2 : 2 ≤ seqLen l) : ∀ i, i < seqLen l → 128 ≤ (l.getD i 0).toNat := by
  have e := rfl (a := seqLen l)
  conv at e => rhs; unfold seqLen
  dsimp only at e
  split at e
  · omega
  · split at e
    · omega
    · split at e
      · omega
      · split at e
        · omega
        · rename_i a1 a2 a3 a4
          have hn : (ld (u (l.getD 0 0))).1 = 4 ∨ (ld (u (l.getD 0 0))).1 = 3 ∨ (ld (u (l.getD 0 0))).1 = 2 := by
            rcases ld_cases (u (l.getD 0 0)) with h | h | h | h | h <;> rw [h] at e <;> simp at e <;> omega
          have q0 := ld_hi _ hn
          have q1 : 128 ≤ (l.getD 1 0).toNat := by
            have hw : wi (u (l.getD 1 0)) (ld (u (l.getD 0 0))).2.1 (ld (u (l.getD 0 0))).2.2 = true := by
              cases hh : wi (u (l.getD 1 0)) (ld (u (l.getD 0 0))).2.1 (ld (u (l.getD 0 0))).2.2 with
              | true => rfl
              | false => exact absurd ⟨hn, hh⟩ a4
            have hl := ld_low _ hn
            unfold wi at hw
            rw [Bool.and_eq_true, decide_eq_true_eq] at hw
            have : (u (l.getD 1 0)) = ((l.getD 1 0).toNat : Int) := rfl
            omega
          have q2 : ((ld (u (l.getD 0 0))).1 = 4 ∨ (ld (u (l.getD 0 0))).1 = 3) → 128 ≤ (l.getD 2 0).toNat := fun hh => by
            have hw : wi (u (l.getD 2 0)) 128 191 = true := by
              cases hx : wi (u (l.getD 2 0)) 128 191 with
              | true => rfl
              | false => exact absurd ⟨hh, hx⟩ a3
            unfold wi at hw
            rw [Bool.and_eq_true, decide_eq_true_eq] at hw
            have : (u (l.getD 2 0)) = ((l.getD 2 0).toNat : Int) := rfl
            omega
          have q3 : (ld (u (l.getD 0 0))).1 = 4 → 128 ≤ (l.getD 3 0).toNat := fun hh => by
            have hw : wi (u (l.getD 3 0)) 128 191 = true := by
              cases hx : wi (u (l.getD 3 0)) 128 191 with
              | true => rfl
              | false => exact absurd ⟨hh, hx⟩ a2
            unfold wi at hw
            rw [Bool.and_eq_true, decide_eq_true_eq] at hw
            have : (u (l.getD 3 0)) = ((l.getD 3 0).toNat : Int) := rfl
            omega
          have q0' : 128 ≤ (l.getD 0 0).toNat := by
            have : (u (l.getD 0 0)) = ((l.getD 0 0).toNat : Int) := rfl
            omega
          intro i hi
          rcases hn with h | h | h
          · rw [h] at e
            have : i = 0 ∨ i = 1 ∨ i = 2 ∨ i = 3 := by simp at e; omega
            rcases this with rfl | rfl | rfl | rfl
            · exact q0'
            · exact q1
            · exact q2 (Or.inl h)
            · exact q3 h
          · rw [h] at e
            have : i = 0 ∨ i = 1 ∨ i = 2 := by simp at e; omega
            rcases this with rfl | rfl | rfl
            · exact q0'
            · exact q1
            · exact q2 (Or.inr h)
          · rw [h] at e
            have : i = 0 ∨ i = 1 := by simp at e; omega
            rcases this with rfl | rfl
            · exact q0'
            · exact q1
theorem bk_none (f : Bool) : ∀ (l : List UInt8), (∀ c ∈ l, c ≠ 32) → l.flatMap (bk f) = l
  | [], _ => rfl
  | c :: l, h => by
    rw [List.flatMap_cons, bk_none f l (fun x hx => h x (List.mem_cons_of_mem _ hx))]
    unfold bk
    rw [if_neg (fun e => h c (List.mem_cons_self ..) e.1)]
    rfl
theorem check_bk (f : Bool) : ∀ (n : Nat) (l : List UInt8), l.length ≤ n → (check l).1 = true → (check (l.flatMap (bk f))).1 = true := by
  refine check_ind (M := fun l => (check l).1 = true → (check (l.flatMap (bk f))).1 = true) (fun h => h) (fun l h1 h2 h => ?_) (fun l h1 ih h => ?_)
  · rw [check_bad l h1 h2] at h
    cases h
  · rw [check_good l h1] at h
    have h3 := ih h
    have hl : l.flatMap (bk f) = (l.take (seqLen l)).flatMap (bk f) ++ (l.drop (seqLen l)).flatMap (bk f) := by rw [← List.flatMap_append, List.take_append_drop]
    have hle := seqLen_le l
    have ht : (check (l.take (seqLen l))).1 = true := by
      have e := TextMath.seqLen_take l (seqLen l) (Nat.le_refl _) (by omega)
      rw [check_good _ (by rw [e]; exact h1), e]
      rw [List.drop_eq_nil_of_le (by rw [List.length_take]; omega)]
      rfl
    have h4 : (check ((l.take (seqLen l)).flatMap (bk f))).1 = true := by
      by_cases h2 : 2 ≤ seqLen l
      · rw [bk_none f _ (fun c hc e => ?_)]
        · exact ht
        · obtain ⟨i, hi, hx⟩ := List.getElem_of_mem hc
          rw [List.length_take] at hi
          have := seq_high l h2 i (by omega)
          rw [List.getElem_take] at hx
          rw [List.getD_eq_getElem?_getD, List.getElem?_eq_getElem (by omega), hx, e] at this
          exact absurd this (by decide)
      · have h1' : seqLen l = 1 := by omega
        rw [h1'] at ht ⊢
        match l, hle with
        | [], hh => rw [h1'] at hh; simp at hh
        | c :: r, _ =>
          show (check ([c].flatMap (bk f))).1 = true
          have ht' : (check [c]).1 = true := ht
          rw [List.flatMap_cons, List.flatMap_nil, List.append_nil]
          unfold bk
          split
          · decide
          · exact ht'
    rw [hl, check_app_good _ _ h4]
    exact h3
theorem utf_blk (b1 b2 b3 : Bool) (v : List UInt8) (h : utf v = true) : utf (blk b1 b2 b3 v) = true := by
  unfold utf at *
  have h1 := check_bk b2 v.length v (Nat.le_refl _) h
  have e1 : (check (if b1 = true then [9] else [])).1 = true := by cases b1 <;> decide
  have e3 : (check (if b3 = true then [32, 13] else [])).1 = true := by cases b3 <;> decide
  unfold blk
  have h2 : (check ((if b1 = true then [9] else []) ++ v.flatMap (bk b2))).1 = true := by rw [check_app_good _ _ e1]; exact h1
  rw [check_app_good _ _ h2]
  exact e3
end Bl
end Go.Proofs.YtkknenmpdimdbaaDoor
