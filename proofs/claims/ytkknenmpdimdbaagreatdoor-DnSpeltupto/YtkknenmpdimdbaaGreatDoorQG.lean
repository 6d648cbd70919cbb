import Derived.Test.YtkknenmpdimdbaaGreatDoorQD
import Derived.Test.YtkknenmpdimdbaaGreatDoorChecked
import Derived.WalkKit
import Derived.Laws.StructEq
import Derived.Test.YtkknenmpdimdbaaGreatDoorQB
import Derived.Deep.WholeRow
import Derived.Deep.RegionHeld3
import Derived.Deep.RegionHeldLaw
import Derived.Deep.AppendLies
import Derived.Deep.DeepCutAuto
import Derived.Lib.OthersKept
import Derived.BigQuiet
import Derived.KernelRfl
import Derived.Lib.AppendZeros
import Derived.Test.YtkknenmpdimdbaaGreatDoorQC
import Derived.Great.BuildSlice
import Derived.Lib.AppendStr
import Derived.Shelf.Strings.Builder1
namespace Go.Proofs.YtkknenmpdimdbaaGreatDoor
namespace Bl
open TextMath (fold check lo seqLen ld wi u bl sqA sqB normal normal_eq check_good check_bad check_ind check_app_good ld_cases seqLen_le)
open Ke (utf cn tyOk tyC tyR OkI OkP OkD keyTx keys Alike key_same PR)
set_option linter.unusedVariables false

def Low (f : UInt8 → UInt8) : Prop := f 0 = 0 ∧ ∀ c, f c = c ∨ (c.toNat < 128 ∧ (f c).toNat < 128)
theorem low_of (f : UInt8 → UInt8) (h : ∀ n : Fin 256, f (UInt8.ofNat n.val) = UInt8.ofNat n.val ∨ ((UInt8.ofNat n.val).toNat < 128 ∧ (f (UInt8.ofNat n.val)).toNat < 128)) (h0 : f 0 = 0) : Low f := ⟨h0, fun c => by
  have := h ⟨c.toNat, c.toNat_lt⟩
  simpa using this⟩
theorem low_lo : Low lo := low_of lo (by decide +kernel) rfl
theorem ld_low (b : Int) (h : (ld b).1 = 4 ∨ (ld b).1 = 3 ∨ (ld b).1 = 2) : 128 ≤ (ld b).2.1 := by
  revert h
  unfold ld
  repeat' split
  all_goals simp
theorem wi_same {f : UInt8 → UInt8} (hf : Low f) (c : UInt8) (lo hi : Int) (h : 128 ≤ lo) : wi (u (f c)) lo hi = wi (u c) lo hi := by
  rcases hf.2 c with e | ⟨h1, h2⟩
  · rw [e]
  · unfold wi u
    rw [Bool.eq_iff_iff]
    simp only [Bool.and_eq_true, decide_eq_true_eq]
    constructor
    · intro h; omega
    · intro h; omega
theorem ld_same {f : UInt8 → UInt8} (hf : Low f) (c : UInt8) : ld (u (f c)) = ld (u c) := by
  rcases hf.2 c with e | ⟨h1, h2⟩
  · rw [e]
  · unfold ld u
    rw [if_pos (by omega), if_pos (by omega)]
theorem getD_map {f : UInt8 → UInt8} (hf : Low f) (l : List UInt8) (i : Nat) : (l.map f).getD i 0 = f (l.getD i 0) := by
  simp only [List.getD, List.getElem?_map]
  cases l[i]? with
  | none => exact hf.1.symm
  | some c => rfl
theorem seq_map {f : UInt8 → UInt8} (hf : Low f) (l : List UInt8) : seqLen (l.map f) = seqLen l := by
  unfold seqLen
  simp only [List.length_map, getD_map hf, ld_same hf, wi_same hf _ 128 191 (by decide)]
  have e : (((ld (u (l.getD 0 0))).1 = 4 ∨ (ld (u (l.getD 0 0))).1 = 3 ∨ (ld (u (l.getD 0 0))).1 = 2) ∧ wi (u (f (l.getD 1 0))) (ld (u (l.getD 0 0))).2.1 (ld (u (l.getD 0 0))).2.2 = false) ↔ (((ld (u (l.getD 0 0))).1 = 4 ∨ (ld (u (l.getD 0 0))).1 = 3 ∨ (ld (u (l.getD 0 0))).1 = 2) ∧ wi (u (l.getD 1 0)) (ld (u (l.getD 0 0))).2.1 (ld (u (l.getD 0 0))).2.2 = false) :=
    and_congr_right fun h => by rw [wi_same hf _ _ _ (ld_low _ h)]
  simp only [e]
theorem check_map {f : UInt8 → UInt8} (hf : Low f) (l : List UInt8) : check (l.map f) = check l := by
  refine TextMath.check_ind (M := fun l => check (l.map f) = check l) ?_ ?_ ?_ l.length l (Nat.le_refl _)
  · rfl
  · intro l h0 h1
    rw [TextMath.check_bad l h0 h1, TextMath.check_bad (l.map f) (by rw [List.length_map]; exact h0) (by rw [seq_map hf]; exact h1)]
  · intro l h1 ih
    rw [TextMath.check_good l h1, TextMath.check_good (l.map f) (by rw [seq_map hf]; exact h1), seq_map hf, ← List.map_drop, ih]
theorem check_fold (l : List UInt8) : check (fold l) = check l := check_map low_lo l
theorem fold_same_check {a b : List UInt8} (h : fold a = fold b) : check a = check b := by rw [← check_fold a, h, check_fold b]
theorem fold_same_normal {a b : List UInt8} (h : fold a = fold b) : normal a = normal b := by rw [normal_eq, normal_eq, h]
theorem fold_same_ty {a b : List UInt8} (h : fold a = fold b) : tyR a = tyR b := by unfold tyR; rw [h]
theorem lo_flip (c : UInt8) (h : (97 ≤ c.toNat ∧ c.toNat ≤ 122) ∨ (65 ≤ c.toNat ∧ c.toNat ≤ 90)) : lo (c ^^^ 32) = lo c := by
  have key : ∀ n : Fin 256, ((97 ≤ (UInt8.ofNat n.val).toNat ∧ (UInt8.ofNat n.val).toNat ≤ 122) ∨ (65 ≤ (UInt8.ofNat n.val).toNat ∧ (UInt8.ofNat n.val).toNat ≤ 90)) → lo ((UInt8.ofNat n.val) ^^^ 32) = lo (UInt8.ofNat n.val) := by decide +kernel
  have h2 := key ⟨c.toNat, c.toNat_lt⟩
  rw [UInt8.ofNat_toNat] at h2
  exact h2 h
/-- A blank, and what may be put behind it. -/
def bk (f : Bool) (c : UInt8) : List UInt8 := if c = 32 ∧ f = true then [32, 10, 32] else [c]
theorem sqB_bk (f : Bool) : ∀ (l : List UInt8) (p : Bool), sqB p (l.flatMap (bk f)) = sqB p l
  | [], p => rfl
  | c :: l, p => by
    have ih := sqB_bk f l
    rw [List.flatMap_cons]
    unfold bk
    split
    · rename_i h
      obtain ⟨rfl, _⟩ := h
      show sqB p (32 :: 10 :: 32 :: (l.flatMap (bk f))) = sqB p (32 :: l)
      simp only [sqB]
      have b1 : bl 32 = true := by decide
      have b2 : bl 10 = true := by decide
      simp [b1, b2, ih]
    · show sqB p (c :: (l.flatMap (bk f))) = sqB p (c :: l)
      simp only [sqB]
      simp [ih]
theorem sqA_bk (f : Bool) : ∀ (l : List UInt8), sqA (l.flatMap (bk f)) = sqA l
  | [] => rfl
  | c :: l => by
    have ih := sqA_bk f l
    have ih2 := sqB_bk f l
    rw [List.flatMap_cons]
    unfold bk
    split
    · rename_i h
      obtain ⟨rfl, _⟩ := h
      show sqA (32 :: 10 :: 32 :: (l.flatMap (bk f))) = sqA (32 :: l)
      simp only [sqA]
      have b1 : bl 32 = true := by decide
      have b2 : bl 10 = true := by decide
      simp [b1, b2, ih]
    · show sqA (c :: (l.flatMap (bk f))) = sqA (c :: l)
      simp only [sqA]
      simp [ih, ih2]
theorem fold_bk (f : Bool) (l : List UInt8) : fold (l.flatMap (bk f)) = (fold l).flatMap (bk f) := by
  induction l with
  | nil => rfl
  | cons c l ih =>
    rw [List.flatMap_cons, TextMath.fold_app, ih, show fold (c :: l) = lo c :: fold l from rfl, List.flatMap_cons]
    congr 1
    unfold bk
    by_cases h : c = 32
    · subst h
      have : lo 32 = 32 := by decide
      rw [this]
      cases f <;> rfl
    · have h2 : lo c ≠ 32 := by
        intro e
        have hb : bl (lo c) = true := by rw [e]; decide
        have : (lo c).toNat = 32 := by rw [e]; rfl
        rw [TextMath.lo_toNat] at this
        split at this
        · omega
        · exact h (UInt8.toNat_inj.1 this)
      simp [h, h2, fold]
theorem sq_left (c : UInt8) (l : List UInt8) (h : bl c = true) : sqA (c :: l) = sqA l := by
  simp [sqA, h]
theorem sq_right (l : List UInt8) (c : UInt8) (h : bl c = true) : sqA (l ++ [c]) = sqA l := by
  rw [TextMath.sqA_app l [] c h]
  unfold TextMath.join
  simp [sqA]
/-- A value with other blanks. -/
def blk (b1 b2 b3 : Bool) (v : List UInt8) : List UInt8 := (if b1 = true then [9] else []) ++ v.flatMap (bk b2) ++ (if b3 = true then [32, 13] else [])
theorem normal_blk (b1 b2 b3 : Bool) (v : List UInt8) : normal (blk b1 b2 b3 v) = normal v := by
  have e3 : ∀ l : List UInt8, sqA (l ++ [32, 13]) = sqA l := fun l => by
    rw [show l ++ [32, 13] = (l ++ [32]) ++ [13] from by simp, sq_right _ 13 (by decide), sq_right _ 32 (by decide)]
  have f9 : fold [9] = [9] := by decide
  have f13 : fold [32, 13] = [32, 13] := by decide
  rw [normal_eq, normal_eq]
  unfold blk
  rw [TextMath.fold_app, TextMath.fold_app, fold_bk]
  cases b1 <;> cases b3
  · simp [fold, sqA_bk]
  · rw [if_pos rfl, f13, e3]
    simp [fold, sqA_bk]
  · rw [if_pos rfl, f9]
    simp only [Bool.false_eq_true, if_false]
    rw [show fold [] = [] from rfl, List.append_nil, List.singleton_append, sq_left _ _ (by decide), sqA_bk]
  · rw [if_pos rfl, if_pos rfl, f9, f13, e3, List.singleton_append, sq_left _ _ (by decide), sqA_bk]
theorem blk_len (b1 b2 b3 : Bool) (v : List UInt8) : (blk b1 b2 b3 v).length ≤ 3 * v.length + 3 := by
  have h : ∀ l : List UInt8, (l.flatMap (bk b2)).length ≤ 3 * l.length := by
    intro l
    induction l with
    | nil => simp
    | cons c l ih =>
      rw [List.flatMap_cons, List.length_append, List.length_cons]
      have : (bk b2 c).length ≤ 3 := by unfold bk; split <;> simp
      omega
  have := h v
  unfold blk
  rw [List.length_append, List.length_append]
  generalize (v.flatMap (bk b2)).length = m at *
  cases b1 <;> cases b3 <;> simp <;> omega
theorem ld_hi (b : Int) (h : (ld b).1 = 4 ∨ (ld b).1 = 3 ∨ (ld b).1 = 2) : 128 ≤ b := by
  unfold ld at h
  by_cases h0 : b ≤ 127
  · rw [if_pos h0] at h
    simp at h
  · omega
theorem seq_high (l : List UInt8) (h2 : 2 ≤ seqLen l) : ∀ i, i < seqLen l → 128 ≤ (l.getD i 0).toNat := by
  have e := rfl (a := seqLen l)
  conv at e => rhs; unfold seqLen
  dsimp only at e
  split at e
  · omega
  · split at e
    · omega
    · split at e
      · omega
      · split at e
        · omega
        · rename_i a1 a2 a3 a4
          have hn : (ld (u (l.getD 0 0))).1 = 4 ∨ (ld (u (l.getD 0 0))).1 = 3 ∨ (ld (u (l.getD 0 0))).1 = 2 := by
            rcases ld_cases (u (l.getD 0 0)) with h | h | h | h | h <;> rw [h] at e <;> simp at e <;> omega
          have q0 := ld_hi _ hn
          have q1 : 128 ≤ (l.getD 1 0).toNat := by
            have hw : wi (u (l.getD 1 0)) (ld (u (l.getD 0 0))).2.1 (ld (u (l.getD 0 0))).2.2 = true := by
              cases hh : wi (u (l.getD 1 0)) (ld (u (l.getD 0 0))).2.1 (ld (u (l.getD 0 0))).2.2 with
              | true => rfl
              | false => exact absurd ⟨hn, hh⟩ a4
            have hl := ld_low _ hn
            unfold wi at hw
            rw [Bool.and_eq_true, decide_eq_true_eq] at hw
            have : (u (l.getD 1 0)) = ((l.getD 1 0).toNat : Int) := rfl
            omega
          have q2 : ((ld (u (l.getD 0 0))).1 = 4 ∨ (ld (u (l.getD 0 0))).1 = 3) → 128 ≤ (l.getD 2 0).toNat := fun hh => by
            have hw : wi (u (l.getD 2 0)) 128 191 = true := by
              cases hx : wi (u (l.getD 2 0)) 128 191 with
              | true => rfl
              | false => exact absurd ⟨hh, hx⟩ a3
            unfold wi at hw
            rw [Bool.and_eq_true, decide_eq_true_eq] at hw
            have : (u (l.getD 2 0)) = ((l.getD 2 0).toNat : Int) := rfl
            omega
          have q3 : (ld (u (l.getD 0 0))).1 = 4 → 128 ≤ (l.getD 3 0).toNat := fun hh => by
            have hw : wi (u (l.getD 3 0)) 128 191 = true := by
              cases hx : wi (u (l.getD 3 0)) 128 191 with
              | true => rfl
              | false => exact absurd ⟨hh, hx⟩ a2
            unfold wi at hw
            rw [Bool.and_eq_true, decide_eq_true_eq] at hw
            have : (u (l.getD 3 0)) = ((l.getD 3 0).toNat : Int) := rfl
            omega
          have q0' : 128 ≤ (l.getD 0 0).toNat := by
            have : (u (l.getD 0 0)) = ((l.getD 0 0).toNat : Int) := rfl
            omega
          intro i hi
          rcases hn with h | h | h
          · rw [h] at e
            have : i = 0 ∨ i = 1 ∨ i = 2 ∨ i = 3 := by simp at e; omega
            rcases this with rfl | rfl | rfl | rfl
            · exact q0'
            · exact q1
            · exact q2 (Or.inl h)
            · exact q3 h
          · rw [h] at e
            have : i = 0 ∨ i = 1 ∨ i = 2 := by simp at e; omega
            rcases this with rfl | rfl | rfl
            · exact q0'
            · exact q1
            · exact q2 (Or.inr h)
          · rw [h] at e
            have : i = 0 ∨ i = 1 := by simp at e; omega
            rcases this with rfl | rfl
            · exact q0'
            · exact q1
theorem bk_none (f : Bool) : ∀ (l : List UInt8), (∀ c ∈ l, c ≠ 32) → l.flatMap (bk f) = l
  | [], _ => rfl
  | c :: l, h => by
    rw [List.flatMap_cons, bk_none f l (fun x hx => h x (List.mem_cons_of_mem _ hx))]
    unfold bk
    rw [if_neg (fun e => h c (List.mem_cons_self ..) e.1)]
    rfl
theorem check_bk (f : Bool) : ∀ (n : Nat) (l : List UInt8), l.length ≤ n → (check l).1 = true → (check (l.flatMap (bk f))).1 = true := by
  refine check_ind (M := fun l => (check l).1 = true → (check (l.flatMap (bk f))).1 = true) (fun h => h) (fun l h1 h2 h => ?_) (fun l h1 ih h => ?_)
  · rw [check_bad l h1 h2] at h
    cases h
  · rw [check_good l h1] at h
    have h3 := ih h
    have hl : l.flatMap (bk f) = (l.take (seqLen l)).flatMap (bk f) ++ (l.drop (seqLen l)).flatMap (bk f) := by rw [← List.flatMap_append, List.take_append_drop]
    have hle := seqLen_le l
    have ht : (check (l.take (seqLen l))).1 = true := by
      have e := TextMath.seqLen_take l (seqLen l) (Nat.le_refl _) (by omega)
      rw [check_good _ (by rw [e]; exact h1), e]
      rw [List.drop_eq_nil_of_le (by rw [List.length_take]; omega)]
      rfl
    have h4 : (check ((l.take (seqLen l)).flatMap (bk f))).1 = true := by
      by_cases h2 : 2 ≤ seqLen l
      · rw [bk_none f _ (fun c hc e => ?_)]
        · exact ht
        · obtain ⟨i, hi, hx⟩ := List.getElem_of_mem hc
          rw [List.length_take] at hi
          have := seq_high l h2 i (by omega)
          rw [List.getElem_take] at hx
          rw [List.getD_eq_getElem?_getD, List.getElem?_eq_getElem (by omega), hx, e] at this
          exact absurd this (by decide)
      · have h1' : seqLen l = 1 := by omega
        rw [h1'] at ht ⊢
        match l, hle with
        | [], hh => rw [h1'] at hh; simp at hh
        | c :: r, _ =>
          show (check ([c].flatMap (bk f))).1 = true
          have ht' : (check [c]).1 = true := ht
          rw [List.flatMap_cons, List.flatMap_nil, List.append_nil]
          unfold bk
          split
          · decide
          · exact ht'
    rw [hl, check_app_good _ _ h4]
    exact h3
theorem utf_blk (b1 b2 b3 : Bool) (v : List UInt8) (h : utf v = true) : utf (blk b1 b2 b3 v) = true := by
  unfold utf at *
  have h1 := check_bk b2 v.length v (Nat.le_refl _) h
  have e1 : (check (if b1 = true then [9] else [])).1 = true := by cases b1 <;> decide
  have e3 : (check (if b3 = true then [32, 13] else [])).1 = true := by cases b3 <;> decide
  unfold blk
  have h2 : (check ((if b1 = true then [9] else []) ++ v.flatMap (bk b2))).1 = true := by rw [check_app_good _ _ e1]; exact h1
  rw [check_app_good _ _ h2]
  exact e3
end Bl
end Go.Proofs.YtkknenmpdimdbaaGreatDoor


namespace Go.Proofs.YtkknenmpdimdbaaGreatDoor
namespace Du
open Go.RowKit
set_option linter.unusedVariables false
set_option maxRecDepth 100000

theorem drewN_below (W : World) (B q : Nat) : Below B W (W.drewN q) := ⟨rfl, rfl, rfl, Nat.le_refl _, fun _ _ => rfl⟩
theorem add_o (b o j : Nat) : (⟨b, o, none⟩ : Addr).add j = ⟨b, o + j, none⟩ := by
  unfold Addr.add
  by_cases h : j = 0
  · subst h; rfl
  · simp [h]
theorem owns_same {w w' : World} {B k n : Nat} {e : TypeId} {v : Value} {xs : List Value} (h : w.ownsRow B e k v n xs) (hb : ∀ g, v.ownBlock = some g → w'.heap[g]? = w.heap[g]?) : w'.ownsRow B e k v n xs := by
  rcases h with ⟨h1, ⟨rfl, h2⟩ | ⟨g, cap, cur, rfl, h3, h4, h5⟩⟩
  · exact ⟨h1, Or.inl ⟨rfl, h2⟩⟩
  · exact ⟨h1, Or.inr ⟨g, cap, cur, rfl, h3, by rw [hb g rfl]; exact h4, h5⟩⟩
theorem owns_base {w : World} {B B' k n : Nat} {e : TypeId} {v : Value} {xs : List Value} (h : w.ownsRow B e k v n xs) (hb : B' ≤ B) : w.ownsRow B' e k v n xs := by
  rcases h with ⟨h1, ⟨rfl, h2⟩ | ⟨g, cap, cur, rfl, h3, h4, h5⟩⟩
  · exact ⟨h1, Or.inl ⟨rfl, h2⟩⟩
  · exact ⟨h1, Or.inr ⟨g, cap, cur, rfl, Nat.le_trans hb h3, h4, h5⟩⟩
theorem owns_form {w : World} {B k n : Nat} {e : TypeId} {v : Value} {xs : List Value} (h : w.ownsRow B e k v n xs) : (v = .slice none 0 0 ∧ n = 0) ∨ (∃ g cap, v = .slice (some ⟨g, 0, none⟩) n cap ∧ n ≤ cap ∧ cap ≤ maxLen ∧ B ≤ g ∧ g < w.heap.size) := by
  rcases h with ⟨h1, ⟨rfl, h2⟩ | ⟨g, cap, cur, rfl, h3, h4, h5, h6, _⟩⟩
  · exact Or.inl ⟨rfl, h2⟩
  · exact Or.inr ⟨g, cap, rfl, h5, h6, h3, (Array.getElem?_eq_some_iff.1 h4).1⟩
theorem owns_apart {w : World} {B B' k k' n n' : Nat} {e e' : TypeId} {v v' : Value} {xs xs' : List Value} (h : w.ownsRow B e k v n xs) (h' : w.ownsRow B' e' k' v' n' xs') (hne : e ≠ e') {g : Nat} (hg : v.ownBlock = some g) : v'.ownBlock ≠ some g := fun hg' => by
  rcases h with ⟨h1, ⟨rfl, h2⟩ | ⟨g1, cap, cur, rfl, h3, h4, h5, _⟩⟩
  · cases hg
  · injection hg with hg
    subst hg
    rcases h' with ⟨k1, ⟨rfl, k2⟩ | ⟨g2, cap2, cur2, rfl, k3, k4, k5, _⟩⟩
    · cases hg'
    · injection hg' with hg'
      subst hg'
      rw [h4] at k4
      injection k4 with k4
      injection k4 with _ k4 _
      exact hne k4
theorem flatV_len {α : Type} (V : α → List Value) (k : Nat) (hk : ∀ x, (V x).length = k) (l : List α) : (l.flatMap V).length = l.length * k := by
  induction l with
  | nil => simp
  | cons x l ih =>
    rw [List.flatMap_cons, List.length_append, ih, hk, List.length_cons, Nat.succ_mul]
    omega
theorem flatV_at {α : Type} (V : α → List Value) (k : Nat) (hk : ∀ x, (V x).length = k) (l : List α) (i : Nat) (hi : i < l.length) (j : Nat) (hj : j < k) : (l.flatMap V)[i * k + j]? = (V l[i])[j]? := by
  induction l generalizing i with
  | nil => simp at hi
  | cons x l ih =>
    rw [List.flatMap_cons]
    cases i with
    | zero =>
      rw [List.getElem?_append_left (by rw [hk]; omega)]
      simp
    | succ i =>
      have e : (i + 1) * k + j = (V x).length + (i * k + j) := by rw [hk, Nat.succ_mul]; omega
      rw [e, List.getElem?_append_right (by omega), Nat.add_sub_cancel_left, ih i (by simpa using hi)]
      rfl
/-- A row of structs, wherever it lies. -/
def GRow {α : Type} (k : Nat) (V : α → List Value) (w : World) (a : Option Addr) (l : List α) : Prop := ∀ i (h : i < l.length), ∃ b off, a = some ⟨b, off, none⟩ ∧ ∀ j, j < k → w.cell? ⟨b, off + i * k + j, none⟩ = (V l[i])[j]?
theorem GRow.below {α : Type} {k : Nat} {V : α → List Value} (hV : ∀ x, (V x).length = k) {w w' : World} {a : Option Addr} {l : List α} (h : GRow k V w a l) (hb : Below w.heap.size w w') : GRow k V w' a l := fun i hi => by
  obtain ⟨b, off, e, h1⟩ := h i hi
  refine ⟨b, off, e, fun j hj => ?_⟩
  have h2 := h1 j hj
  rw [hb.cell, h2]
  rw [List.getElem?_eq_getElem (by rw [hV]; exact hj)] at h2
  exact World.block_lt_of_cell? w _ h2
theorem GRow.nil {α : Type} (k : Nat) (V : α → List Value) (w : World) (a : Option Addr) : GRow k V w a [] := fun i hi => by simp at hi
theorem GRow.front {α : Type} {k : Nat} {V : α → List Value} {w : World} {a : Option Addr} {l m : List α} (h : GRow k V w a (l ++ m)) : GRow k V w a l := fun i hi => by
  have h1 := h i (by rw [List.length_append]; omega)
  rw [List.getElem_append_left hi] at h1
  exact h1
/-- One struct that has just been laid. -/
theorem GRow.one {α : Type} {k : Nat} (V : α → List Value) (w : World) (t : TypeId) (p : α) : GRow k V (w.alloc (.cells (V p).toArray t)) (some ⟨w.heap.size, 0, none⟩) [p] := fun i hi => by
  have hi0 : i = 0 := by simp at hi; omega
  subst hi0
  refine ⟨_, _, rfl, fun j hj => ?_⟩
  have h1 : (w.alloc (.cells (V p).toArray t)).heap[w.heap.size]? = some (.cells (V p).toArray t (0, 0)) := heap_alloc_new _ _
  rw [cell_of_row _ _ _ _ _ _ h1]
  simp
/-- A row of structs of the call's own. -/
def GOwn {α : Type} (t : TypeId) (k : Nat) (V : α → List Value) (W : World) (B : Nat) (v : Value) (l : List α) : Prop := W.ownsRow B t k v l.length (l.flatMap V)
theorem GOwn.nil {α : Type} (t : TypeId) (k : Nat) (V : α → List Value) (W : World) (B : Nat) : GOwn t k V W B (.slice none 0 0) [] := ⟨by simp, Or.inl ⟨rfl, rfl⟩⟩
theorem GOwn.row {α : Type} {t : TypeId} {k : Nat} {V : α → List Value} (hV : ∀ x, (V x).length = k) {w : World} {B : Nat} {v : Value} {L : List α} (h : GOwn t k V w B v L) : ∃ a c, v = .slice a L.length c ∧ L.length ≤ c ∧ c ≤ maxLen ∧ GRow k V w a L := by
  rcases owns_form h with ⟨rfl, h0⟩ | ⟨g, cap, rfl, hc, hm, _⟩
  · exact ⟨none, 0, by rw [h0], by omega, by unfold maxLen; omega, fun i hi => by omega⟩
  · refine ⟨_, cap, rfl, hc, hm, fun i hi => ⟨g, 0, rfl, fun j hj => ?_⟩⟩
    rw [Nat.zero_add]
    have hlt : i * k + j < L.length * k := by
      have : (i + 1) * k ≤ L.length * k := Nat.mul_le_mul_right k hi
      rw [Nat.succ_mul] at this
      omega
    have hc := World.ownsRow.cellAt (show w.ownsRow B t k _ L.length (L.flatMap V) from h) (i * k + j) hlt
    rw [hc]
    exact flatV_at V k hV L i hi j hj
theorem GOwn.below {α : Type} {t : TypeId} {k : Nat} {V : α → List Value} {w w' : World} {B : Nat} {v : Value} {L : List α} (h : GOwn t k V w B v L) (hb : Below w.heap.size w w') : GOwn t k V w' B v L := owns_same h (fun g hg => hb.block g (World.ownsRow.lt h g hg).2)
/-- What is known of a type of structs. -/
def Kd {α : Type} (t ts : TypeId) (k nb : Nat) (V : α → List Value) : Prop :=
  Tryz.prog.underlying ts = some (.slice t) ∧ (∃ i z, Tryz.prog.info? t = some i ∧ i.zero = some z ∧ i.size = k ∧ i.bytes = nb ∧ z.cells.size = k) ∧ 0 < k ∧ 0 < nb ∧ (∀ x, (V x).length = k) ∧ (∀ x, ∀ u ∈ V x, u.oneCell' = true)
/-- A row appended to a row of the call's own. -/
theorem append_gen {α : Type} {t ts : TypeId} {k nb : Nat} {V : α → List Value} (KD : Kd t ts k nb V) (w : World) (B : Nat) (v : Value) (l m : List α) (a : Option Addr) (n c : Nat) (hown : GOwn t k V w B v l) (hk : GRow k V w a m) (hn : n = m.length) (hB : B ≤ w.heap.size) (hsz : (l.length + m.length) * nb ≤ 140737488355328) :
    ∃ v' w', (Builtin.append_ #[ts, ts] ts #[v, .slice a n c]).run Tryz.prog w = .ok v' w' ∧ GOwn t k V w' B v' (l ++ m) ∧ w.grownBy w' v.ownBlock ∧ Below B w w' := by
  subst hn
  obtain ⟨hund, ⟨i0, z0, hi, hz0, hz1, hz2, hz3⟩, hk0, hnb, hV, h1V⟩ := KD
  by_cases h0 : m.length = 0
  · have hm0 := List.eq_nil_of_length_eq_zero h0
    subst hm0
    refine ⟨v, w, ?_, by rw [List.append_nil]; exact hown, ⟨rfl, rfl, rfl, Nat.le_refl _, fun _ _ _ => rfl⟩, Below.refl _ _⟩
    cases a with
    | none =>
      rcases owns_form hown with ⟨rfl, h2⟩ | ⟨g, cap, rfl, hc, _⟩
      · simp [Builtin.append_, run_underlying hund, sizeOf, typeInfo, hi, Builtin.lenOf, Builtin.firstCells]
      · simp [Builtin.append_, run_underlying hund, sizeOf, typeInfo, hi, Builtin.lenOf, Builtin.firstCells, hc, storeCells]
    | some d =>
      rcases owns_form hown with ⟨rfl, h2⟩ | ⟨g, cap, rfl, hc, _⟩
      · simp [Builtin.append_, run_underlying hund, sizeOf, typeInfo, hi, Builtin.lenOf, Builtin.firstCells, loadCells, loadCellsFrom]
      · simp [Builtin.append_, run_underlying hund, sizeOf, typeInfo, hi, Builtin.lenOf, Builtin.firstCells, loadCells, loadCellsFrom, hc, storeCells]
  · obtain ⟨b, off, rfl, _⟩ := hk 0 (by omega)
    have hnews : ∀ j u, (m.flatMap V)[j]? = some u → w.cell? ((⟨b, off, none⟩ : Addr).add j) = some u := by
      intro j u hj
      have hjn : j < m.length * k := by
        rcases Nat.lt_or_ge j (m.length * k) with h' | h'
        · exact h'
        · rw [List.getElem?_eq_none (by rw [flatV_len V k hV]; exact h')] at hj; cases hj
      have hq : j / k < m.length := Nat.div_lt_of_lt_mul (by rw [Nat.mul_comm]; exact hjn)
      have hr : j % k < k := Nat.mod_lt _ hk0
      have ej : j / k * k + j % k = j := by rw [Nat.mul_comm]; exact Nat.div_add_mod j k
      obtain ⟨b', off', e, hc⟩ := hk (j / k) hq
      injection e with e
      injection e with e1 e2
      subst e1 e2
      have h1 := hc (j % k) hr
      have h2 := flatV_at V k hV m (j / k) hq (j % k) hr
      rw [ej, hj] at h2
      rw [Nat.add_assoc, ej] at h1
      rw [add_o, h1, ← h2]
    have hle : l.length + m.length ≤ 140737488355328 := Nat.le_trans (Nat.le_mul_of_pos_right _ hnb) hsz
    obtain ⟨g, cap, w', hr, h2, h3, _, _⟩ := run_append_lies (P := Tryz.prog) w ts ts B t i0 z0 k nb hund hi hz0 hz1 hz2 hz3 hk0 v l.length (l.flatMap V) hown ⟨b, off, none⟩ m.length c (m.flatMap V) (flatV_len V k hV m) hnews (fun u hu => by obtain ⟨y, _, hy⟩ := List.mem_flatMap.1 hu; exact h1V y u hy) (by omega) (Nat.le_trans hle (by unfold maxLen; decide)) hsz hB w.heap.size rfl
    refine ⟨_, w', hr, ?_, h3, (Below.refl _ _).grown h3 hB (fun j hj => (World.ownsRow.lt (show w.ownsRow B t k v l.length (l.flatMap V) from hown) _ hj).1)⟩
    unfold GOwn
    rw [List.flatMap_append, List.length_append]
    exact h2
abbrev PR := List UInt8 × List UInt8
/-- A part: where it lies, its room, its values. -/
abbrev PX := Option Addr × Nat × List PR
def pV (p : PR) : List Value := [.string (S p.1), .string (S p.2)]
def xV (r : PX) : List Value := [.slice r.1 r.2.2.length r.2.1]
theorem pV_len (p : PR) : (pV p).length = 2 := rfl
theorem xV_len (r : PX) : (xV r).length = 1 := rfl
abbrev PRow (w : World) (a : Option Addr) (l : List PR) : Prop := GRow 2 pV w a l
theorem prow_at {w : World} {a : Option Addr} {l : List PR} (h : PRow w a l) (i : Nat) (hi : i < l.length) : ∃ b off, a = some ⟨b, off, none⟩ ∧ w.cell? ⟨b, off + i * 2, none⟩ = some (.string (S l[i].1)) ∧ w.cell? ⟨b, off + i * 2 + 1, none⟩ = some (.string (S l[i].2)) := by
  obtain ⟨b, off, e, h1⟩ := h i hi
  exact ⟨b, off, e, h1 0 (by omega), h1 1 (by omega)⟩
/-- A name, wherever it lies, its parts too. -/
def DRow (w : World) (a : Option Addr) (L : List PX) : Prop := GRow 1 xV w a L ∧ ∀ r ∈ L, PRow w r.1 r.2.2 ∧ r.2.2.length ≤ r.2.1 ∧ r.2.1 ≤ maxLen
theorem DRow.below {w w' : World} {a : Option Addr} {L : List PX} (h : DRow w a L) (hb : Below w.heap.size w w') : DRow w' a L := ⟨h.1.below xV_len hb, fun r hr => ⟨(h.2 r hr).1.below pV_len hb, (h.2 r hr).2⟩⟩
theorem drow_at {w : World} {a : Option Addr} {L : List PX} (h : DRow w a L) (i : Nat) (hi : i < L.length) : ∃ b off, a = some ⟨b, off, none⟩ ∧ w.cell? ⟨b, off + i, none⟩ = some (.slice L[i].1 L[i].2.2.length L[i].2.1) := by
  obtain ⟨b, off, e, h1⟩ := h.1 i hi
  have := h1 0 (by omega)
  rw [Nat.mul_one] at this
  exact ⟨b, off, e, this⟩
/-- What a name says. -/
def sd (L : List PX) : List (List PR) := L.map fun r => r.2.2
theorem sd_len (L : List PX) : (sd L).length = L.length := List.length_map ..
end Du
end Go.Proofs.YtkknenmpdimdbaaGreatDoor

namespace Go.Proofs.YtkknenmpdimdbaaGreatDoor
namespace Bl
open Go.RowKit
open TextMath (fold lo normal)
open Du (GOwn GRow Kd append_gen flatV_at)
set_option linter.unusedVariables false

def bV (b : UInt8) : List Value := [.int .u8 (b.toNat : Int)]
theorem bV_len (b : UInt8) : (bV b).length = 1 := rfl
theorem bV_flat (l : List UInt8) : l.flatMap bV = bv l := by
  induction l with
  | nil => rfl
  | cons c l ih => rw [List.flatMap_cons, ih]; rfl
theorem KDb : Kd 5 87 1 1 bV := by
  refine ⟨Tryz.underlying87, ?_, by decide, by decide, bV_len, fun x u hu => by simp only [bV, List.mem_singleton] at hu; subst hu; rfl⟩
  have h : (Tryz.prog.info? 5).map (fun i => (i.zero, i.size, i.bytes)) = some (some (.int .u8 0), 1, 1) := by kernel_rfl
  obtain ⟨i0, hi, hz0, hz1, hz2⟩ := info_parts h
  exact ⟨i0, _, hi, hz0, hz1, hz2, rfl⟩
set_option maxRecDepth 100000 in
/-- An append whose run is known. -/
theorem wp_app (w : World) {ops : Array Oper} {rest : List Oper} {o : Oper} {a : Act} {Q : Exit → Act → World → Prop} (hgd : o.guard = none) (s x : Operand) (ts : TypeId)
    (ho : o.op = .call { callee := .builtin .append, args := #[s, x], argTypes := #[ts, ts] }) (ht : o.type = ts) (vs vx v' : Value) (w' : World)
    (hs : a.eval s = vs) (hx : a.eval x = vx) (hr : (Builtin.append_ #[ts, ts] ts #[vs, vx]).run Tryz.prog w = .ok v' w')
    (h : wpList Tryz.prog ops Q rest (a.put o.dst v') w') : wpList Tryz.prog ops Q (o :: rest) a w :=
  Lib.wpList_append_run w hgd s x _ _ ho _ _ hs hx _ _ (by rw [ht]; exact hr) h
theorem g_new {α : Type} {k : Nat} (V : α → List Value) (hV : ∀ x, (V x).length = k) (w : World) (t : TypeId) (l : List α) : GRow k V (w.alloc (.cells (l.flatMap V).toArray t)) (some ⟨w.heap.size, 0, none⟩) l := fun i hi => by
  refine ⟨_, _, rfl, fun j hj => ?_⟩
  have h1 : (w.alloc (.cells (l.flatMap V).toArray t)).heap[w.heap.size]? = some (.cells (l.flatMap V).toArray t (0, 0)) := heap_alloc_new _ _
  rw [cell_of_row _ _ _ _ _ _ h1, Nat.zero_add, List.getElem?_toArray]
  exact flatV_at V k hV l i hi j hj
/-- Bytes of the call's own. -/
def BI (w : World) (v : Value) (l : List UInt8) (W : World) : Prop := GOwn 5 1 bV W w.heap.size v l ∧ Below w.heap.size w W
theorem bi_more {w W : World} {v : Value} {l : List UInt8} (h : BI w v l W) (m : List UInt8) (hl : l.length + m.length ≤ 17179869184) :
    ∃ a' n' c' w', (Builtin.append_ #[87, 87] 87 #[v, .slice (some ⟨W.heap.size, 0, none⟩) m.length m.length]).run Tryz.prog (W.alloc (.cells (m.flatMap bV).toArray 5)) = .ok (.slice a' n' c') w' ∧ BI w (.slice a' n' c') (l ++ m) w' := by
  have hb : Below W.heap.size W (W.alloc (.cells (m.flatMap bV).toArray 5)) := (Below.refl _ _).alloc (Nat.le_refl _) _
  obtain ⟨v', w', e1, o1, _, b1⟩ := append_gen KDb (W.alloc (.cells (m.flatMap bV).toArray 5)) w.heap.size v l m _ m.length m.length (h.1.below hb) (g_new bV bV_len W 5 m) rfl (Nat.le_trans h.2.size hb.size) (by omega)
  obtain ⟨a', c', hv, _⟩ := o1.row bV_len
  subst hv
  exact ⟨a', _, c', w', e1, o1, (h.2.trans (hb.mono h.2.size)).trans b1⟩
theorem bi_conv {w W : World} {v : Value} {l : List UInt8} (h : BI w v l W) : (convert 87 9 v).run Tryz.prog W = .ok (.string (S l)) W := by
  have h1 : W.ownsRow w.heap.size 5 1 v l.length (bv l) := by have := h.1; unfold GOwn at this; rwa [bV_flat] at this
  exact own_back_any W w.heap.size 87 9 5 v l.length l Tryz.underlying87 Tryz.underlying5 Tryz.underlying9 h1
end Bl
end Go.Proofs.YtkknenmpdimdbaaGreatDoor

namespace Go.Proofs.YtkknenmpdimdbaaGreatDoor
open Go.RowKit

/-- A value that is the call's own row of bytes. -/
def Own (W : World) (B : Nat) (v : Value) (l : List UInt8) : Prop := W.ownsRow B 5 1 v l.length (bv l)
theorem own_conv {w : World} {B : Nat} {v : Value} {l : List UInt8} (h : Own w B v l) : (convert 87 9 v).run Tryz.prog w = .ok (.string (S l)) w :=
  own_back_any w B 87 9 5 v l.length l Tryz.underlying87 Tryz.underlying5 Tryz.underlying9 h
/-- One byte appended to a row of the call's own. -/
theorem push_byte_at (w : World) {ops : Array Oper} {rest : List Oper} {o : Oper} {a : Act} {Q : Exit → Act → World → Prop} (hgd : o.guard = none) (s x : Operand)
    (ho : o.op = .call { callee := .builtin .append, args := #[s, x], argTypes := #[87, 87] }) (B : Nat) (v : Value) (l : List UInt8) (c : UInt8) (g : Nat)
    (hs : a.eval s = v) (hx : a.eval x = .slice (some ⟨g, 0, none⟩) 1 1) (hg : g = w.heap.size) (hown : Own w B v l) (hB : B ≤ w.heap.size) (hl : l.length ≤ 1099511627776)
    (h : ∀ v' w', Own w' B v' (l ++ [c]) → Below B w w' → wpList Tryz.prog ops Q rest (a.put o.dst v') w') :
    wpList Tryz.prog ops Q (o :: rest) a (w.alloc (.cells #[.int .u8 (c.toNat : Int)] 5)) := by
  subst hg
  obtain ⟨i0, hi, hz0, hz1, hz2⟩ := info_parts info_u8
  refine wpList_append_own _ hgd s x 87 ho B 5 i0 (.int .u8 0) 1 1 Tryz.underlying87 hi hz0 hz1 hz2 rfl (by decide) v l.length (bv l) hs (World.ownsRow.alloc hown _) ⟨w.heap.size, 0, none⟩ 1 1 [.int .u8 (c.toNat : Int)] hx rfl ?_ ?_ ?_ ?_ ?_ ?_
  · exact cell_one_new _ _ _
  · intro u hu; simp at hu; subst hu; rfl
  · unfold maxLen; omega
  · omega
  · simp; omega
  · intro v' w' h1 h2 _
    refine h v' w' ?_ ?_
    · unfold Own
      rw [bv_app, List.length_append]
      exact h1
    · refine ((Below.refl _ _).alloc hB _).grown h2 (by simp; omega) ?_
      intro k hk
      exact (World.ownsRow.lt (show w.ownsRow B 5 1 v l.length (bv l) from hown) _ hk).1
/-- A string appended to a row of the call's own. -/
theorem push_str (w : World) {ops : Array Oper} {rest : List Oper} {o : Oper} {a : Act} {Q : Exit → Act → World → Prop} (hgd : o.guard = none) (s x : Operand)
    (ho : o.op = .call { callee := .builtin .append, args := #[s, x], argTypes := #[87, 9] }) (B : Nat) (v : Value) (l : List UInt8) (str : ByteArray)
    (hs : a.eval s = v) (hx : a.eval x = .string str) (hown : Own w B v l) (hB : B ≤ w.heap.size) (hl : l.length + str.size ≤ 1099511627776)
    (h : ∀ v' w', Own w' B v' (l ++ str.data.toList) → Below B w w' → wpList Tryz.prog ops Q rest (a.put o.dst v') w') :
    wpList Tryz.prog ops Q (o :: rest) a w := by
  obtain ⟨i0, hi, hz0, hz1, hz2⟩ := info_parts info_u8
  refine Lib.wpList_append_own_string _ hgd s x 87 9 ho B 5 i0 Tryz.underlying87 Tryz.underlying9 hi hz0 hz1 hz2 v l.length (bv l) hs hown str hx (by unfold maxLen; omega) (by omega) hB ?_
  intro v' w' h1 h2 _
  refine h v' w' ?_ ?_
  · unfold Own
    rw [bv_app, List.length_append, size_l]
    exact h1
  · refine (Below.refl _ _).grown h2 hB ?_
    intro k hk
    exact (World.ownsRow.lt (show w.ownsRow B 5 1 v l.length (bv l) from hown) _ hk).1
/-- A row of bytes of the call's own, of which at most a stretch behind its end is marked. -/
def OwnG (W : World) (B : Nat) (v : Value) (l : List UInt8) : Prop :=
  ∃ g cap cur fz, v = .slice (some ⟨g, 0, none⟩) l.length cap ∧ B ≤ g ∧ W.heap[g]? = some (.cells cur 5 fz) ∧ (fz.2 = 0 ∨ cur.size ≤ fz.1) ∧ l.length ≤ cap ∧ cap ≤ maxLen ∧ cur.size = cap ∧ cur.toList.take l.length = bv l
theorem storeG (P : Program) (g o N : Nat) (t : TypeId) (fz : Nat × Nat) (hf : fz.2 = 0 ∨ N ≤ fz.1) : ∀ (vs : List Value) (i : Nat) (cur : Array Value) (w : World), w.heap[g]? = some (.cells cur t fz) → cur.size = N → o + i + vs.length ≤ cur.size → (∀ v ∈ vs, v.oneCell' = true) →
    (storeCells ⟨g, o, none⟩ vs i).run P w = .ok () (w.setRow g (cur.toList.take (o + i) ++ vs ++ cur.toList.drop (o + i + vs.length)).toArray)
  | [], i, cur, w, hg, _, _, _ => by
    simp only [storeCells, List.append_nil, List.length_nil, Nat.add_zero, List.take_append_drop, Array.toArray_toList]
    rw [setRow_self w g cur t fz hg]
    rfl
  | v :: rest, i, cur, w, hg, hN, hl, h1 => by
    have hi : o + i < cur.size := by simp at hl; omega
    have hadd : (⟨g, o, none⟩ : Addr).add i = ⟨g, o + i, none⟩ := add_off g o i
    have hcell : w.cell? ⟨g, o + i, none⟩ = some cur[o + i] := by simp [World.cell?, hg, hi]
    have hfro : w.frozen? ⟨g, o + i, none⟩ = false := by
      obtain ⟨lo, hi'⟩ := fz
      simp only [World.frozen?, hg, Bool.and_eq_false_iff, decide_eq_false_iff_not]
      simp only at hf
      omega
    have hst : (store ((⟨g, o, none⟩ : Addr).add i) v).run P w = .ok () (w.setRow g (cur.setIfInBounds (o + i) v)) := by
      rw [hadd, run_store P w _ v _ (h1 v (by simp)), hcell]
      simp [hfro, setCell_eq_setRow w g (o + i) cur t fz v hg]
    have ih := storeG P g o N t fz hf rest (i + 1) (cur.setIfInBounds (o + i) v) (w.setRow g (cur.setIfInBounds (o + i) v)) (setRow_heap w g cur _ t _ hg) (by simpa using hN) (by simp at hl ⊢; omega) (fun x hx => h1 x (by simp [hx]))
    simp only [storeCells, Sem.run_bind, hst, Result.andThen_ok, ih, setRow_setRow]
    congr 3
    have e := list_seg_step cur.toList (o + i) v rest (by simp at hl ⊢; omega)
    simpa [Array.toList_setIfInBounds, Nat.add_assoc] using e
/-- What an append of the cells bv k leaves, with room or without. -/
theorem ownG_room {w : World} {B g cap : Nat} {cur : Array Value} {fz : Nat × Nat} {l k : List UInt8} (hB : B ≤ g) (hg : w.heap[g]? = some (.cells cur 5 fz)) (hf : fz.2 = 0 ∨ cur.size ≤ fz.1) (hr : l.length + k.length ≤ cap) (hm : cap ≤ maxLen) (hs : cur.size = cap) (ht : cur.toList.take l.length = bv l) :
    OwnG (w.setRow g (cur.toList.take l.length ++ bv k ++ cur.toList.drop (l.length + k.length)).toArray) B (.slice (some ⟨g, 0, none⟩) (l.length + k.length) cap) (l ++ k) ∧ Below B w (w.setRow g (cur.toList.take l.length ++ bv k ++ cur.toList.drop (l.length + k.length)).toArray) := by
  have hz : (cur.toList.take l.length ++ bv k ++ cur.toList.drop (l.length + k.length)).toArray.size = cur.size := by
    simp only [List.size_toArray, List.length_append, List.length_take, List.length_drop, Array.length_toList, bv_len]
    omega
  refine ⟨⟨g, cap, _, fz, by rw [List.length_append], hB, setRow_heap w g cur _ _ _ hg, by rw [hz]; exact hf, by rw [List.length_append]; exact hr, hm, by rw [hz]; exact hs, ?_⟩, ?_⟩
  · rw [ht, bv_app, List.length_append]
    have : (bv l ++ bv k).length = l.length + k.length := by rw [List.length_append, bv_len, bv_len]
    rw [← this]
    exact List.take_left
  · exact ⟨rfl, rfl, rfl, by simp, fun x hx => setRow_other w g x _ (by omega)⟩
theorem ownG_grow {w : World} {B : Nat} {l k : List UInt8} (old : Nat) (hB : B ≤ w.heap.size) (hl : l.length + k.length ≤ 1099511627776) :
    OwnG (w.drew.alloc (.cells ((bv l).toArray ++ (bv k).toArray ++ Builtin.zeroCells (Value.int .u8 0).cells (grownCap w (l.length + k.length) old 5 - (l.length + k.length))) 5)) B (.slice (some ⟨w.heap.size, 0, none⟩) (l.length + k.length) (grownCap w (l.length + k.length) old 5)) (l ++ k) ∧
    Below B w (w.drew.alloc (.cells ((bv l).toArray ++ (bv k).toArray ++ Builtin.zeroCells (Value.int .u8 0).cells (grownCap w (l.length + k.length) old 5 - (l.length + k.length))) 5)) := by
  have hge := grownCap_ge w (l.length + k.length) old 5
  have hle := grownCap_le_maxLen w (l.length + k.length) old 5 (by unfold maxLen; omega)
  refine ⟨⟨w.heap.size, _, _, (0, 0), by rw [List.length_append], hB, heap_alloc_new w.drew _, Or.inl rfl, by rw [List.length_append]; exact hge, hle, ?_, ?_⟩, ?_⟩
  · have hz1 : (Value.int IntKind.u8 0).cells.size = 1 := rfl
    simp only [Array.size_append, List.size_toArray, size_zeroCells, hz1, bv_len]
    omega
  · simp only [Array.toList_append, List.append_assoc]
    rw [← List.append_assoc, ← bv_app, ← bv_len (l ++ k)]
    exact List.take_left
  · exact ((Below.refl _ _).drew).alloc hB _
theorem ownG_cells {w : World} {B g n cap : Nat} {l : List UInt8} (h : OwnG w B (.slice (some ⟨g, 0, none⟩) n cap) l) : ∀ j (hj : j < l.length), w.cell? ⟨g, j, none⟩ = some (.int .u8 (l[j].toNat : Int)) := by
  obtain ⟨g', cap', cur, fz, hv, _, hg, _, _, _, _, ht⟩ := h
  injection hv with hv _ _
  injection hv with hv
  injection hv with hv
  subst hv
  intro j hj
  have h1 : (bv l)[j]? = some (.int .u8 (l[j].toNat : Int)) := by simp [bv, hj]
  rw [← ht, List.getElem?_take] at h1
  rw [if_pos hj] at h1
  rw [cell_of_row w g j cur _ fz hg]
  simpa using h1
theorem ownG_conv {w : World} {B : Nat} {v : Value} {l : List UInt8} (h : OwnG w B v l) : (convert 87 9 v).run Tryz.prog w = .ok (.string (S l)) w := by
  have h' := h
  obtain ⟨g, cap, cur, fz, rfl, _⟩ := h'
  exact run_convert_bytes_back w 87 9 5 ⟨g, 0, none⟩ cap l Tryz.underlying87 Tryz.underlying5 Tryz.underlying9 (fun j hj => by rw [add_j]; exact ownG_cells h j hj)
/-- One byte appended. -/
theorem append_byteG (w : World) (ty : TypeId) (B : Nat) (v : Value) (l : List UInt8) (c : UInt8) (gx : Nat) (h : OwnG w B v l) (hx : w.heap[gx]? = some (.cells #[.int .u8 (c.toNat : Int)] 5 (0, 0))) (hB : B ≤ w.heap.size) (hl : l.length + 1 ≤ 1099511627776) :
    ∃ v' w', (Builtin.append_ #[87, 87] ty #[v, .slice (some ⟨gx, 0, none⟩) 1 1]).run Tryz.prog w = .ok v' w' ∧ OwnG w' B v' (l ++ [c]) ∧ Below B w w' := by
  have h' := h
  obtain ⟨g, cap, cur, fz, rfl, hbg, hg, hf, hnc, hcm, hcs, ht⟩ := h'
  obtain ⟨i0, hi, hz0, hz1, hz2⟩ := info_parts info_u8
  have hnews : ∀ j u, (bv [c])[j]? = some u → w.cell? ((⟨gx, 0, none⟩ : Addr).add j) = some u := World.news_of_block hx
  by_cases hr : l.length + 1 ≤ cap
  · have hfc := run_firstCells_some (P := Tryz.prog) w 1 1 ⟨gx, 0, none⟩ 1 1 (bv [c]) rfl hnews
    have hst := storeG Tryz.prog g l.length cur.size 5 fz hf (bv [c]) 0 cur w hg rfl (by rw [bv_len, hcs]; simpa using hr) (bv_one _)
    simp only [Nat.add_zero, bv_len] at hst
    obtain ⟨o1, o2⟩ := ownG_room (k := [c]) hbg hg hf hr hcm hcs ht
    refine ⟨_, _, ?_, o1, o2⟩
    simp [Builtin.append_, run_underlying Tryz.underlying87, sizeOf, typeInfo, hi, hz1, Builtin.lenOf, hr, hfc, Addr.add_lit, hst]
  · have hg2 := run_append_grow (P := Tryz.prog) w 87 ty 5 i0 _ Tryz.underlying87 hi hz0 ⟨g, 0, none⟩ l.length cap (bv l) (by rw [hz1, bv_len, Nat.mul_one]) (fun j u hu => by
      have hj : j < l.length := by
        rcases Nat.lt_or_ge j l.length with h' | h'
        · exact h'
        · rw [List.getElem?_eq_none (by rw [bv_len]; exact h')] at hu; cases hu
      rw [add_j, ownG_cells h j hj, ← hu]
      simp [bv, hj]) ⟨gx, 0, none⟩ 1 1 (bv [c]) (by rw [hz1]; rfl) hnews (by omega) (by omega) (by rw [hz2]; exact growslice_fits (by omega) (by omega))
    obtain ⟨o1, o2⟩ := ownG_grow (w := w) (B := B) (l := l) (k := [c]) cap hB hl
    exact ⟨_, _, hg2, o1, o2⟩
/-- A string appended. -/
theorem append_strG (w : World) (ty : TypeId) (B : Nat) (v : Value) (l : List UInt8) (s : ByteArray) (h : OwnG w B v l) (hB : B ≤ w.heap.size) (hl : l.length + s.size ≤ 1099511627776) :
    ∃ v' w', (Builtin.append_ #[87, 9] ty #[v, .string s]).run Tryz.prog w = .ok v' w' ∧ OwnG w' B v' (l ++ s.data.toList) ∧ Below B w w' := by
  have h' := h
  obtain ⟨g, cap, cur, fz, rfl, hbg, hg, hf, hnc, hcm, hcs, ht⟩ := h'
  obtain ⟨i0, hi, hz0, hz1, hz2⟩ := info_parts info_u8
  have hsl : s.data.toList.length = s.size := size_l s
  have hsc : Lib.strCells s = bv s.data.toList := rfl
  by_cases hr : l.length + s.size ≤ cap
  · have hfc := Lib.run_firstCells_string (P := Tryz.prog) w 1 s
    have hst := storeG Tryz.prog g l.length cur.size 5 fz hf (Lib.strCells s) 0 cur w hg rfl (by rw [hsc, bv_len, hsl, hcs]; simpa using hr) (Lib.strCells_oneCell s)
    simp only [Nat.add_zero, Lib.strCells_length] at hst
    obtain ⟨o1, o2⟩ := ownG_room (k := s.data.toList) hbg hg hf (by rw [hsl]; exact hr) hcm hcs ht
    rw [hsl, ← hsc] at o1 o2
    refine ⟨_, _, ?_, o1, o2⟩
    clear hsc
    simp [Builtin.append_, run_underlying Tryz.underlying87, run_underlying Tryz.underlying9, sizeOf, typeInfo, hi, hz1, Builtin.lenOf, hr, hfc, Addr.add_lit, hst]
  · have hg2 := Lib.run_append_grow_string (P := Tryz.prog) w 87 9 ty 5 i0 _ Tryz.underlying87 Tryz.underlying9 hi hz0 ⟨g, 0, none⟩ l.length cap (bv l) (by rw [hz1, bv_len, Nat.mul_one]) (fun j u hu => by
      have hj : j < l.length := by
        rcases Nat.lt_or_ge j l.length with h' | h'
        · exact h'
        · rw [List.getElem?_eq_none (by rw [bv_len]; exact h')] at hu; cases hu
      rw [add_j, ownG_cells h j hj, ← hu]
      simp [bv, hj]) s (by omega) (by omega) (by rw [hz2]; exact growslice_fits (by omega) (by omega))
    obtain ⟨o1, o2⟩ := ownG_grow (w := w) (B := B) (l := l) (k := s.data.toList) cap hB (by rw [hsl]; exact hl)
    rw [hsl] at o1 o2
    exact ⟨_, _, hg2, o1, o2⟩
/-- A text as bytes of the call's own. -/
theorem conv_own (w : World) (s : ByteArray) (hs : s.size ≤ 1099511627776) :
    ∃ W1 v, (convert 9 87 (.string s)).run Tryz.prog w = .ok v W1 ∧ Below w.heap.size w W1 ∧ OwnG W1 w.heap.size v s.data.toList := by
  refine ⟨_, _, run_bytes_of_string w 9 87 5 s Tryz.underlying9 Tryz.underlying87 Tryz.underlying5, ?_, ?_⟩
  · exact (Below.refl _ _).drew.alloc (by simp) _
  · have hge := grownCap_ge w s.size 0 5
    have hle := grownCap_le_maxLen w s.size 0 5 (by unfold maxLen; omega)
    refine ⟨w.heap.size, _, _, _, by rw [size_l], Nat.le_refl _, heap_alloc_new w.drew _, Or.inr (Nat.le_refl _), by rw [size_l]; exact hge, hle, ?_, ?_⟩
    · simp [bytesRow]
      have : s.size = s.data.size := rfl
      omega
    · simp [bytesRow, bv]


end Go.Proofs.YtkknenmpdimdbaaGreatDoor

namespace Go.Proofs.YtkknenmpdimdbaaGreatDoor
open Go.RowKit Go.Shelf

def ren169 : Go.Shelf.Ren := ⟨fun | 169 => 43 | n => n, fun | 70 => 86 | 9 => 9 | 0 => 0 | 72 => 89 | 37 => 87 | 127 => 121 | 3 => 3 | 5 => 5 | n => n, fun | n => n⟩
theorem lays169 : Go.Proofs.Lays.n169 Tryz.prog ren169 := {
  mixed := by kernel_rfl
  f169 := Tryz.func43.trans (congrArg some (by kernel_rfl))
  t0 := Tryz.underlying0
  a0 := Tryz.isAgg0
  z0 := Tryz.sizeOf0
  v0 := Tryz.zeroValue0
  t3 := Tryz.underlying3
  a3 := Tryz.isAgg3
  z3 := Tryz.sizeOf3
  v3 := Tryz.zeroValue3
  t9 := Tryz.underlying9
  a9 := Tryz.isAgg9
  z9 := Tryz.sizeOf9
  v9 := Tryz.zeroValue9
  t37 := Tryz.underlying87
  a37 := Tryz.isAgg87
  z37 := Tryz.sizeOf87
  v37 := Tryz.zeroValue87
  t70 := Tryz.underlying86
  a70 := Tryz.isAgg86
  z70 := Tryz.sizeOf86
  v70 := Tryz.zeroValue86
  t72 := Tryz.underlying89
  a72 := Tryz.isAgg89
  z72 := Tryz.sizeOf89
  v72 := Tryz.zeroValue89
  t127 := Tryz.underlying121
  a127 := Tryz.isAgg121
  z127 := Tryz.sizeOf121
  v127 := Tryz.zeroValue121 }
theorem extra169 : Builder.Extra Tryz.prog ren169 := {
  sizeBuilder := by kernel_rfl
  liesBuilder := by kernel_rfl
  t5 := Tryz.underlying5
  a5 := Tryz.isAgg5
  z5 := Tryz.sizeOf5
  v5 := Tryz.zeroValue5
  infoByte := by kernel_rfl
  cellsByte := by kernel_rfl
  sizeByte := by kernel_rfl
  neB5 := by decide }
/-- A builder that holds the bytes l. -/
def IsB (B b : Nat) (l : List UInt8) (w : World) : Prop := Lib.IsBuilder 89 5 B b (bv l) w
theorem bytes_bv (l : List UInt8) : Lib.byteCells l = bv l := rfl
theorem bString_any (B b : Nat) (l : List UInt8) (w : World) (h : IsB B b l w) (hBw : B ≤ w.heap.size) :
    Calls Tryz.prog 43 #[.pointer (some ⟨b, 0, none⟩)] w fun e w' => e = .returned (.string (S l)) ∧ Below B w w' := Any.Builder_String_any lays169 extra169 B b l w h hBw

set_option maxHeartbeats 1000000 in
set_option maxRecDepth 100000 in
theorem copyCheck_any (B b : Nat) (l : List UInt8) (w : World) (h : IsB B b l w) :
    Calls Tryz.prog 70 #[.pointer (some ⟨b, 0, none⟩)] w fun e w' => e = .returned (.tuple #[]) ∧ Lib.BuilderAt 89 5 B b (.pointer (some ⟨b, 0, none⟩)) (bv l) w' ∧ Below B w w' := by
  obtain ⟨j, hj, hjs⟩ := Option.map_eq_some_iff.1 extra169.sizeBuilder
  rcases h with h | h
  · have h0 := h.cell0
    have hsh := h.shape
    have hfz := h.frozen0
    go_enter Tryz.func70, Tryz.ntmps70
    go_wp2
    rw [Lib.run_to_unsafe w ⟨b, 0, none⟩ Tryz.underlying86 Tryz.underlying166 hj (by rw [hjs]; decide) hsh (Nat.zero_lt_succ 1)]
    simp only [Result.andThen]
    rw [Oper.upon_value]
    go_wp2
    rw [run_callFunc_extern Tryz.func99 (by kernel_rfl) (by kernel_rfl) (by kernel_rfl) (e := Extern.AbiNoEscape.same) (by kernel_rfl)]
    rw [Lib.run_noEscape]
    simp only [Result.andThen]
    rw [Oper.upon_value]
    go_wp2
    rw [Lib.run_from_unsafe w ⟨b, 0, none⟩ Tryz.underlying166 Tryz.underlying86 hj hsh extra169.liesBuilder]
    simp only [Result.andThen]
    rw [Oper.upon_value]
    go_wp2
    go_end0
    exact ⟨rfl, h.used _, (Below.refl B w).setCell (p := ⟨b, 0, none⟩) h.1 _⟩
  · have h0 := h.cell0
    go_enter Tryz.func70, Tryz.ntmps70
    go_wp2
    rw [Lib.run_neq_ptr_same w _ Tryz.underlying86 hj]
    go_wp2
    go_end0
    exact ⟨rfl, h, Below.refl B _⟩

set_option maxHeartbeats 1000000 in
set_option maxRecDepth 100000 in
theorem writeByte_any (B b : Nat) (l : List UInt8) (c : UInt8) (w : World) (h : IsB B b l w) (hlen : l.length ≤ 1099511627776) (hBw : B ≤ w.heap.size) :
    Calls Tryz.prog 40 #[.pointer (some ⟨b, 0, none⟩), .int .u8 (c.toNat : Int)] w fun e w' => e = .returned .nilIface ∧ IsB B b (l ++ [c]) w' ∧ Below B w w' := by
  go_enter Tryz.func40, Tryz.ntmps40
  go_wp2_with (go_at_call 70; refine (copyCheck_any B b l _ h).mono ?_)
  rintro e w1 ⟨rfl, h1, hb1⟩
  obtain ⟨hB, v, hbk, hown, hne⟩ := h1
  have c0 : w1.cell? ⟨b, 0, none⟩ = some (.pointer (some ⟨b, 0, none⟩)) := by rw [Lib.cell_of_heap hbk]; rfl
  have c1 : w1.cell? ⟨b, 1, none⟩ = some v := by rw [Lib.cell_of_heap hbk]; rfl
  obtain ⟨i0, hi, hz0, hz1, hz2⟩ := info_parts info_u8
  have hlt : b < w1.heap.size := by
    rcases Nat.lt_or_ge b w1.heap.size with h' | h'
    · exact h'
    · simp [Array.getElem?_eq_none h'] at hbk
  have hn1 : w.heap.size ≤ w1.heap.size := hb1.size
  have hbl : Hid ((bv l).length = l.length) := bv_len l
  go_wp2_with (at_builtin; refine wpList_append_own _ rfl _ _ 87 rfl B 5 i0 (.int .u8 0) 1 1 Tryz.underlying87 hi hz0 hz1 hz2 rfl (by decide) _ _ _ rfl (hown.alloc _) ⟨w1.heap.size, 0, none⟩ 1 1 [.int .u8 (c.toNat : Int)] rfl rfl ?_ ?_ ?_ ?_ ?_ ?_)
  · exact cell_one_new _ _ _
  · intro u hu; simp at hu; subst hu; rfl
  · have := hbl.out; unfold maxLen; omega
  · have := hbl.out; omega
  · simp; omega
  intro v' w2 hown' hgrow _
  have hb2 : w2.heap[b]? = some (.cells #[.pointer (some ⟨b, 0, none⟩), v] 89 (0, 0)) := by
    rw [hgrow.block b (by simp; omega) (fun e => hne e.symm), Lib.alloc_old w1 _ b hlt]
    exact hbk
  have d0 : w2.cell? ⟨b, 0, none⟩ = some (.pointer (some ⟨b, 0, none⟩)) := by rw [Lib.cell_of_heap hb2]; rfl
  have d1 : w2.cell? ⟨b, 1, none⟩ = some v := by rw [Lib.cell_of_heap hb2]; rfl
  have f1 : w2.frozen? ⟨b, 1, none⟩ = false := Lib.frozen_of_heap hb2 1
  obtain ⟨g, cap, rfl⟩ : ∃ g cap, v' = .slice (some ⟨g, 0, none⟩) ((bv l).length + 1) cap := by
    rcases hown'.2 with ⟨_, h0⟩ | ⟨g, cap, cur, hv, _⟩
    · omega
    · exact ⟨g, cap, hv⟩
  go_wp2
  go_ret
  refine ⟨rfl, Or.inr ?_, ?_⟩
  · rw [bv_app]
    exact Lib.BuilderAt.put (T := 89) (e := 5) hB hb2 (bs' := bv l ++ [.int .u8 (c.toNat : Int)]) (by simpa using hown') (by decide)
  · exact ((hb1.alloc (by omega) _).grown hgrow (by simp; omega) (fun k hk => (hown.lt k hk).1)).setCell (p := ⟨b, 1, none⟩) hB _

set_option maxHeartbeats 1000000 in
set_option maxRecDepth 100000 in
theorem writeString_any (B b : Nat) (l : List UInt8) (s : ByteArray) (w : World) (h : IsB B b l w) (hlen : l.length + s.size ≤ 1099511627776) (hBw : B ≤ w.heap.size) :
    Calls Tryz.prog 71 #[.pointer (some ⟨b, 0, none⟩), .string s] w fun e w' => e = .returned (.tuple #[.int .i64 s.size, .nilIface]) ∧ IsB B b (l ++ s.data.toList) w' ∧ Below B w w' := by
  go_enter Tryz.func71, Tryz.ntmps71
  go_wp2_with (go_at_call 70; refine (copyCheck_any B b l _ h).mono ?_)
  rintro e w1 ⟨rfl, h1, hb1⟩
  obtain ⟨hB, v, hbk, hown, hne⟩ := h1
  have c0 : w1.cell? ⟨b, 0, none⟩ = some (.pointer (some ⟨b, 0, none⟩)) := by rw [Lib.cell_of_heap hbk]; rfl
  have c1 : w1.cell? ⟨b, 1, none⟩ = some v := by rw [Lib.cell_of_heap hbk]; rfl
  obtain ⟨i0, hi, hz0, hz1, hz2⟩ := info_parts info_u8
  have hlt : b < w1.heap.size := by
    rcases Nat.lt_or_ge b w1.heap.size with h' | h'
    · exact h'
    · simp [Array.getElem?_eq_none h'] at hbk
  have hn1 : w.heap.size ≤ w1.heap.size := hb1.size
  have hbl : Hid ((bv l).length = l.length) := bv_len l
  go_wp2_with (at_builtin; refine Lib.wpList_append_own_string _ rfl _ _ 87 9 rfl B 5 i0 Tryz.underlying87 Tryz.underlying9 hi hz0 hz1 hz2 _ _ _ rfl hown s rfl ?_ ?_ ?_ ?_)
  · have := hbl.out; unfold maxLen; omega
  · have := hbl.out; omega
  · omega
  intro v' w2 hown' hgrow _
  have hb2 : w2.heap[b]? = some (.cells #[.pointer (some ⟨b, 0, none⟩), v] 89 (0, 0)) := by
    rw [hgrow.block b hlt (fun e => hne e.symm)]
    exact hbk
  have d0 : w2.cell? ⟨b, 0, none⟩ = some (.pointer (some ⟨b, 0, none⟩)) := by rw [Lib.cell_of_heap hb2]; rfl
  have d1 : w2.cell? ⟨b, 1, none⟩ = some v := by rw [Lib.cell_of_heap hb2]; rfl
  have f1 : w2.frozen? ⟨b, 1, none⟩ = false := Lib.frozen_of_heap hb2 1
  obtain ⟨ao, n', cap, rfl⟩ : ∃ ao n' cap, v' = .slice ao n' cap := by
    rcases hown'.2 with ⟨hv, _⟩ | ⟨g, cap, cur, hv, _⟩
    · exact ⟨_, _, _, hv⟩
    · exact ⟨_, _, _, hv⟩
  go_wp2
  go_ret2
  refine ⟨rfl, Or.inr ?_, ?_⟩
  · rw [bv_app]
    exact Lib.BuilderAt.put (T := 89) (e := 5) hB hb2 (bs' := bv l ++ Lib.strCells s) (by simpa [Lib.strCells_length] using hown') (by decide)
  · exact (hb1.grown hgrow (by omega) (fun k hk => (hown.lt k hk).1)).setCell (p := ⟨b, 1, none⟩) hB _
end Go.Proofs.YtkknenmpdimdbaaGreatDoor

namespace Go.Proofs.YtkknenmpdimdbaaGreatDoor
namespace Lr
open Go.RowKit Go.Shelf
set_option linter.unusedVariables false

/-- What is no builder and no row of bytes stays as it was. -/
def Kt (w w' : World) : Prop := ∀ (k : Nat) (o : Obj), w.heap[k]? = some o → (∀ cs fz, o ≠ .cells cs 89 fz) → (∀ cs fz, o ≠ .cells cs 5 fz) → w'.heap[k]? = some o
theorem Kt.refl (w : World) : Kt w w := fun _ _ h _ _ => h
theorem Kt.trans {a b c : World} (h : Kt a b) (h' : Kt b c) : Kt a c := fun k o q1 q2 q3 => h' k o (h k o q1 q2 q3) q2 q3
theorem Kt.below {w w' : World} (h : Below w.heap.size w w') : Kt w w' := fun k o q _ _ => by rw [h.block k (Array.getElem?_eq_some_iff.1 q).1]; exact q
theorem Kt.alloc (w : World) (o : Obj) : Kt w (w.alloc o) := Kt.below ((Below.refl _ _).alloc (Nat.le_refl _) _)
theorem Kt.set {w : World} {b : Nat} {cs : Array Value} {fz : Nat × Nat} (h : w.heap[b]? = some (.cells cs 89 fz)) (j : Nat) (v : Value) : Kt w (w.setCell ⟨b, j, none⟩ v) := fun k o q1 q2 q3 => by
  have hne : k ≠ b := fun e => by
    subst e
    rw [h] at q1
    injection q1 with q1
    exact q2 cs fz q1.symm
  rw [Below.heap_setCell _ _ _ _ hne]
  exact q1
theorem Kt.grown {w w' : World} {B n : Nat} {v : Value} {xs : List Value} (h : w.ownsRow B 5 1 v n xs) (hg : w.grownBy w' v.ownBlock) : Kt w w' := fun k o q1 q2 q3 => by
  have hlt : k < w.heap.size := (Array.getElem?_eq_some_iff.1 q1).1
  rw [hg.block k hlt (fun e => ?_)]
  · exact q1
  · rcases h with ⟨h1, ⟨rfl, h2⟩ | ⟨g, cap, cur, rfl, h3, h4, h5⟩⟩
    · cases e
    · injection e with e
      subst e
      rw [h4] at q1
      injection q1 with q1
      exact q3 _ _ q1.symm

set_option maxHeartbeats 1000000 in
set_option maxRecDepth 100000 in
theorem copyCheckK_any (B b : Nat) (l : List UInt8) (w : World) (h : IsB B b l w) :
    Calls Tryz.prog 70 #[.pointer (some ⟨b, 0, none⟩)] w fun e w' => e = .returned (.tuple #[]) ∧ Lib.BuilderAt 89 5 B b (.pointer (some ⟨b, 0, none⟩)) (bv l) w' ∧ Below B w w' ∧ Kt w w' := by
  obtain ⟨j, hj, hjs⟩ := Option.map_eq_some_iff.1 extra169.sizeBuilder
  rcases h with h | h
  · have hcp := h
    obtain ⟨_, v0, hbk0, _, _⟩ := hcp
    have h0 := h.cell0
    have hsh := h.shape
    have hfz := h.frozen0
    go_enter Tryz.func70, Tryz.ntmps70
    go_wp2
    rw [Lib.run_to_unsafe w ⟨b, 0, none⟩ Tryz.underlying86 Tryz.underlying166 hj (by rw [hjs]; decide) hsh (Nat.zero_lt_succ 1)]
    simp only [Result.andThen]
    rw [Oper.upon_value]
    go_wp2
    rw [run_callFunc_extern Tryz.func99 (by kernel_rfl) (by kernel_rfl) (by kernel_rfl) (e := Extern.AbiNoEscape.same) (by kernel_rfl)]
    rw [Lib.run_noEscape]
    simp only [Result.andThen]
    rw [Oper.upon_value]
    go_wp2
    rw [Lib.run_from_unsafe w ⟨b, 0, none⟩ Tryz.underlying166 Tryz.underlying86 hj hsh extra169.liesBuilder]
    simp only [Result.andThen]
    rw [Oper.upon_value]
    go_wp2
    go_end0
    exact ⟨rfl, h.used _, (Below.refl B w).setCell (p := ⟨b, 0, none⟩) h.1 _, Kt.set hbk0 0 _⟩
  · have h0 := h.cell0
    go_enter Tryz.func70, Tryz.ntmps70
    go_wp2
    rw [Lib.run_neq_ptr_same w _ Tryz.underlying86 hj]
    go_wp2
    go_end0
    exact ⟨rfl, h, Below.refl B _, Kt.refl _⟩

set_option maxHeartbeats 1000000 in
set_option maxRecDepth 100000 in
theorem writeByteK_any (B b : Nat) (l : List UInt8) (c : UInt8) (w : World) (h : IsB B b l w) (hlen : l.length ≤ 1099511627776) (hBw : B ≤ w.heap.size) :
    Calls Tryz.prog 40 #[.pointer (some ⟨b, 0, none⟩), .int .u8 (c.toNat : Int)] w fun e w' => e = .returned .nilIface ∧ IsB B b (l ++ [c]) w' ∧ Below B w w' ∧ Kt w w' := by
  go_enter Tryz.func40, Tryz.ntmps40
  go_wp2_with (go_at_call 70; refine (copyCheckK_any B b l _ h).mono ?_)
  rintro e w1 ⟨rfl, h1, hb1, hk1⟩
  obtain ⟨hB, v, hbk, hown, hne⟩ := h1
  have c0 : w1.cell? ⟨b, 0, none⟩ = some (.pointer (some ⟨b, 0, none⟩)) := by rw [Lib.cell_of_heap hbk]; rfl
  have c1 : w1.cell? ⟨b, 1, none⟩ = some v := by rw [Lib.cell_of_heap hbk]; rfl
  obtain ⟨i0, hi, hz0, hz1, hz2⟩ := info_parts info_u8
  have hlt : b < w1.heap.size := by
    rcases Nat.lt_or_ge b w1.heap.size with h' | h'
    · exact h'
    · simp [Array.getElem?_eq_none h'] at hbk
  have hn1 : w.heap.size ≤ w1.heap.size := hb1.size
  have hbl : Hid ((bv l).length = l.length) := bv_len l
  go_wp2_with (at_builtin; refine wpList_append_own _ rfl _ _ 87 rfl B 5 i0 (.int .u8 0) 1 1 Tryz.underlying87 hi hz0 hz1 hz2 rfl (by decide) _ _ _ rfl (hown.alloc _) ⟨w1.heap.size, 0, none⟩ 1 1 [.int .u8 (c.toNat : Int)] rfl rfl ?_ ?_ ?_ ?_ ?_ ?_)
  · exact cell_one_new _ _ _
  · intro u hu; simp at hu; subst hu; rfl
  · have := hbl.out; unfold maxLen; omega
  · have := hbl.out; omega
  · simp; omega
  intro v' w2 hown' hgrow _
  have hb2 : w2.heap[b]? = some (.cells #[.pointer (some ⟨b, 0, none⟩), v] 89 (0, 0)) := by
    rw [hgrow.block b (by simp; omega) (fun e => hne e.symm), Lib.alloc_old w1 _ b hlt]
    exact hbk
  have d0 : w2.cell? ⟨b, 0, none⟩ = some (.pointer (some ⟨b, 0, none⟩)) := by rw [Lib.cell_of_heap hb2]; rfl
  have d1 : w2.cell? ⟨b, 1, none⟩ = some v := by rw [Lib.cell_of_heap hb2]; rfl
  have f1 : w2.frozen? ⟨b, 1, none⟩ = false := Lib.frozen_of_heap hb2 1
  obtain ⟨g, cap, rfl⟩ : ∃ g cap, v' = .slice (some ⟨g, 0, none⟩) ((bv l).length + 1) cap := by
    rcases hown'.2 with ⟨_, h0⟩ | ⟨g, cap, cur, hv, _⟩
    · omega
    · exact ⟨g, cap, hv⟩
  go_wp2
  go_ret
  refine ⟨rfl, Or.inr ?_, ?_, ?_⟩
  · rw [bv_app]
    exact Lib.BuilderAt.put (T := 89) (e := 5) hB hb2 (bs' := bv l ++ [.int .u8 (c.toNat : Int)]) (by simpa using hown') (by decide)
  · exact ((hb1.alloc (by omega) _).grown hgrow (by simp; omega) (fun k hk => (hown.lt k hk).1)).setCell (p := ⟨b, 1, none⟩) hB _
  · exact hk1.trans ((Kt.alloc w1 _).trans ((Kt.grown (hown.alloc _) hgrow).trans (Kt.set hb2 1 _)))

set_option maxHeartbeats 1000000 in
set_option maxRecDepth 100000 in
theorem writeStringK_any (B b : Nat) (l : List UInt8) (s : ByteArray) (w : World) (h : IsB B b l w) (hlen : l.length + s.size ≤ 1099511627776) (hBw : B ≤ w.heap.size) :
    Calls Tryz.prog 71 #[.pointer (some ⟨b, 0, none⟩), .string s] w fun e w' => e = .returned (.tuple #[.int .i64 s.size, .nilIface]) ∧ IsB B b (l ++ s.data.toList) w' ∧ Below B w w' ∧ Kt w w' := by
  go_enter Tryz.func71, Tryz.ntmps71
  go_wp2_with (go_at_call 70; refine (copyCheckK_any B b l _ h).mono ?_)
  rintro e w1 ⟨rfl, h1, hb1, hk1⟩
  obtain ⟨hB, v, hbk, hown, hne⟩ := h1
  have c0 : w1.cell? ⟨b, 0, none⟩ = some (.pointer (some ⟨b, 0, none⟩)) := by rw [Lib.cell_of_heap hbk]; rfl
  have c1 : w1.cell? ⟨b, 1, none⟩ = some v := by rw [Lib.cell_of_heap hbk]; rfl
  obtain ⟨i0, hi, hz0, hz1, hz2⟩ := info_parts info_u8
  have hlt : b < w1.heap.size := by
    rcases Nat.lt_or_ge b w1.heap.size with h' | h'
    · exact h'
    · simp [Array.getElem?_eq_none h'] at hbk
  have hn1 : w.heap.size ≤ w1.heap.size := hb1.size
  have hbl : Hid ((bv l).length = l.length) := bv_len l
  go_wp2_with (at_builtin; refine Lib.wpList_append_own_string _ rfl _ _ 87 9 rfl B 5 i0 Tryz.underlying87 Tryz.underlying9 hi hz0 hz1 hz2 _ _ _ rfl hown s rfl ?_ ?_ ?_ ?_)
  · have := hbl.out; unfold maxLen; omega
  · have := hbl.out; omega
  · omega
  intro v' w2 hown' hgrow _
  have hb2 : w2.heap[b]? = some (.cells #[.pointer (some ⟨b, 0, none⟩), v] 89 (0, 0)) := by
    rw [hgrow.block b hlt (fun e => hne e.symm)]
    exact hbk
  have d0 : w2.cell? ⟨b, 0, none⟩ = some (.pointer (some ⟨b, 0, none⟩)) := by rw [Lib.cell_of_heap hb2]; rfl
  have d1 : w2.cell? ⟨b, 1, none⟩ = some v := by rw [Lib.cell_of_heap hb2]; rfl
  have f1 : w2.frozen? ⟨b, 1, none⟩ = false := Lib.frozen_of_heap hb2 1
  obtain ⟨ao, n', cap, rfl⟩ : ∃ ao n' cap, v' = .slice ao n' cap := by
    rcases hown'.2 with ⟨hv, _⟩ | ⟨g, cap, cur, hv, _⟩
    · exact ⟨_, _, _, hv⟩
    · exact ⟨_, _, _, hv⟩
  go_wp2
  go_ret2
  refine ⟨rfl, Or.inr ?_, ?_, ?_⟩
  · rw [bv_app]
    exact Lib.BuilderAt.put (T := 89) (e := 5) hB hb2 (bs' := bv l ++ Lib.strCells s) (by simpa [Lib.strCells_length] using hown') (by decide)
  · exact (hb1.grown hgrow (by omega) (fun k hk => (hown.lt k hk).1)).setCell (p := ⟨b, 1, none⟩) hB _
  · exact hk1.trans ((Kt.grown hown hgrow).trans (Kt.set hb2 1 _))
end Lr
end Go.Proofs.YtkknenmpdimdbaaGreatDoor
