import Derived.Test.YtihjlcclaoofhaaDoorKeN
namespace Go.Proofs.YtihjlcclaoofhaaDoor
namespace TextMath

/-- The digit of a number below 16. -/
def dg (n : Nat) : UInt8 := UInt8.ofNat (if n < 10 then 48 + n else 87 + n)
def hex (l : List UInt8) : List UInt8 := l.flatMap fun b => [dg (b.toNat / 16), dg (b.toNat % 16)]

/-- The worth of a digit. -/
def wo (b : UInt8) : Option Nat :=
  if 48 ≤ b.toNat ∧ b.toNat ≤ 57 then some (b.toNat - 48)
  else if 97 ≤ b.toNat ∧ b.toNat ≤ 102 then some (b.toNat - 87)
  else if 65 ≤ b.toNat ∧ b.toNat ≤ 70 then some (b.toNat - 55) else none

theorem dg_toNat (n : Nat) (h : n < 16) : (dg n).toNat = if n < 10 then 48 + n else 87 + n := by
  unfold dg; rw [UInt8.toNat_ofNat']; split <;> omega
theorem wo_dg (n : Nat) (h : n < 16) : wo (dg n) = some n := by
  have := dg_toNat n h
  unfold wo; rw [this]
  by_cases h' : n < 10
  · rw [if_pos h', if_pos (by omega)]; congr 1; omega
  · rw [if_neg h', if_neg (by omega), if_pos (by omega)]; congr 1; omega
theorem wo_lt (b : UInt8) (n : Nat) (h : wo b = some n) : n < 16 := by
  unfold wo at h
  repeat' split at h
  all_goals first | (injection h with h; omega) | cases h

/-- Unhex: the bytes, or the place. -/
def unhex : List UInt8 → Nat → Except Nat (List UInt8)
  | [], _ => .ok []
  | [a], k => match wo a with
    | none => .error k
    | some _ => .error (k + 1)
  | a :: b :: t, k => match wo a, wo b with
    | none, _ => .error k
    | some _, none => .error (k + 1)
    | some x, some y => match unhex t (k + 2) with
      | .ok r => .ok (UInt8.ofNat (16 * x + y) :: r)
      | .error p => .error p

def pre (o : List UInt8) : Except Nat (List UInt8) → Except Nat (List UInt8)
  | .ok t => .ok (o ++ t)
  | .error p => .error p
theorem pre_nil (r : Except Nat (List UInt8)) : pre [] r = r := by cases r <;> rfl
theorem pre_pre (o p : List UInt8) (r : Except Nat (List UInt8)) : pre o (pre p r) = pre (o ++ p) r := by cases r <;> simp [pre]
theorem unhex_bad (a : UInt8) (t : List UInt8) (k : Nat) (h : wo a = none) : unhex (a :: t) k = .error k := by
  cases t with
  | nil => simp [unhex, h]
  | cons b r => simp [unhex, h]
theorem unhex_odd (a : UInt8) (k : Nat) (x : Nat) (h : wo a = some x) : unhex [a] k = .error (k + 1) := by simp [unhex, h]
theorem unhex_bad2 (a b : UInt8) (t : List UInt8) (k x : Nat) (h : wo a = some x) (hb : wo b = none) : unhex (a :: b :: t) k = .error (k + 1) := by simp [unhex, h, hb]
theorem unhex_pair (a b : UInt8) (t : List UInt8) (k x y : Nat) (h : wo a = some x) (hb : wo b = some y) : unhex (a :: b :: t) k = pre [UInt8.ofNat (16 * x + y)] (unhex t (k + 2)) := by
  simp only [unhex, h, hb]
  cases unhex t (k + 2) <;> rfl
end TextMath
end Go.Proofs.YtihjlcclaoofhaaDoor

namespace Go.Proofs.YtihjlcclaoofhaaDoor
namespace Pa
open TextMath (fold lo normal check wo)
open Ke (tyOk tyC utf PR)
set_option linter.unusedVariables false

/-- May the byte stand in a type? -/
def tb (c : UInt8) : Bool := decide (97 ≤ c.toNat ∧ c.toNat ≤ 122) || decide (65 ≤ c.toNat ∧ c.toNat ≤ 90) || decide (48 ≤ c.toNat ∧ c.toNat ≤ 57) || decide (c.toNat = 45) || decide (c.toNat = 46)
def hd (c : UInt8) : Bool := (wo c).isSome
def hb (a b : UInt8) : UInt8 := UInt8.ofNat (16 * (wo a).getD 0 + (wo b).getD 0)
/-- Bytes that mean themselves behind a backslash. -/
def esL : List UInt8 := [92, 34, 43, 44, 59, 60, 62, 35, 61, 32]
def es (c : UInt8) : Bool := esL.contains c
/-- Bytes that must be escaped. -/
def bar (c : UInt8) : Bool := c == 0 || c == 34 || c == 59 || c == 60 || c == 62
/-- What a backslash with this behind it is: 1 lame, 3 coded, 4 escaped. -/
def kB : List UInt8 → Nat
  | [] => 1
  | a :: r => if es a = true then 4 else match r with
    | [] => 1
    | b :: _ => if (hd a && hd b) = true then 3 else 1
/-- What a value goes on with: 0 it ends, 2 barred, 5 plain, 6 a space. -/
def kO : List UInt8 → Nat
  | [] => 0
  | c :: r => if c = 44 ∨ c = 43 then 0 else if c = 92 then kB r else if bar c = true then 2 else if c = 32 then 6 else 5
abbrev VR := Except (Nat × Nat) (List UInt8 × List UInt8)
/-- A value that is written as it is, or escaped: what is read of it, how much of that counts. -/
def tv : Nat → List UInt8 → List UInt8 → Nat → VR
  | 0, l, a, c => .error (0, l.length)
  | n + 1, l, a, c =>
    if kO l = 0 then .ok (a.take c, l)
    else if kO l = 1 then .error (54, l.length)
    else if kO l = 2 then .error (55, l.length)
    else if kO l = 3 then tv n (l.drop 3) (a ++ [hb (l.getD 1 0) (l.getD 2 0)]) (a.length + 1)
    else if kO l = 4 then tv n (l.drop 2) (a ++ [l.getD 1 0]) (a.length + 1)
    else if kO l = 5 then tv n (l.drop 1) (a ++ [l.getD 0 0]) (a.length + 1)
    else tv n (l.drop 1) (a ++ [l.getD 0 0]) c
/-- A value, the one behind a # told by hx. -/
def pv (hx : List UInt8 → Option VR) (l : List UInt8) : Option VR :=
  (if l.head? = some 35 then hx (l.drop 1) else some (tv (l.length + 1) l [] 0)).map fun v => match v with
    | .error e => .error e
    | .ok x => if utf x.1 = true then .ok x else .error (51, l.length)
def sp (l : List UInt8) : List UInt8 := l.dropWhile (· == 32)
/-- A type and its equals sign. -/
def pt (ahead : List (List UInt8)) (l : List UInt8) : VR :=
  if tyOk (l.takeWhile tb) = false then .error (52, l.length)
  else if tyC (l.takeWhile tb) ∈ ahead then .error (57, l.length)
  else if (sp (l.dropWhile tb)).head? = some 61 then .ok (l.takeWhile tb, sp ((sp (l.dropWhile tb)).drop 1))
  else .error (53, (sp (l.dropWhile tb)).length)
abbrev PRs := Except (Nat × Nat) (List PR × List UInt8)
/-- A part's pairs. -/
def prt (hx : List UInt8 → Option VR) : Nat → Nat → List PR → List UInt8 → Option PRs
  | 0, _, _, _ => none
  | n + 1, num, ps, l =>
    if num = 64 ∨ ps.length = 8 then some (.error (58, (sp l).length))
    else match pt (ps.map fun p => tyC p.1) (sp l) with
      | .error e => some (.error e)
      | .ok x => match pv hx x.2 with
        | none => none
        | some (.error e) => some (.error e)
        | some (.ok y) => if y.2.head? = some 43 then prt hx n num (ps ++ [(x.1, y.1)]) (y.2.drop 1) else some (.ok (ps ++ [(x.1, y.1)], y.2))
abbrev DRs := Except (Nat × Nat) (List (List PR))
/-- All parts. -/
def nmP (hx : List UInt8 → Option VR) : Nat → List (List PR) → List UInt8 → Option DRs
  | 0, _, _ => none
  | n + 1, D, l => match prt hx 9 D.length [] l with
    | none => none
    | some (.error e) => some (.error e)
    | some (.ok x) => if x.2.head? = some 44 then nmP hx n (D ++ [x.1]) (x.2.drop 1) else some (.ok (D ++ [x.1]))
/-- A name's text; an error with what is left of the text at its place. -/
def prs (hx : List UInt8 → Option VR) (s : List UInt8) : Option DRs :=
  if 4096 < s.length then some (.error (50, s.length - 4096))
  else if utf s = false then some (.error (51, s.length - (check s).2))
  else if s = [] then some (.ok [])
  else nmP hx 65 [] s
theorem tv_step (n : Nat) (l a : List UInt8) (c : Nat) : tv (n + 1) l a c = if kO l = 0 then .ok (a.take c, l)
    else if kO l = 1 then .error (54, l.length)
    else if kO l = 2 then .error (55, l.length)
    else if kO l = 3 then tv n (l.drop 3) (a ++ [hb (l.getD 1 0) (l.getD 2 0)]) (a.length + 1)
    else if kO l = 4 then tv n (l.drop 2) (a ++ [l.getD 1 0]) (a.length + 1)
    else if kO l = 5 then tv n (l.drop 1) (a ++ [l.getD 0 0]) (a.length + 1)
    else tv n (l.drop 1) (a ++ [l.getD 0 0]) c := rfl
end Pa
end Go.Proofs.YtihjlcclaoofhaaDoor

namespace Go.Proofs.YtihjlcclaoofhaaDoor
namespace Bl
open TextMath (fold check lo seqLen ld wi u bl sqA sqB normal normal_eq check_good check_bad check_ind check_app_good ld_cases seqLen_le)
open Ke (utf cn tyOk tyC tyR OkI OkP OkD keyTx keys Alike key_same PR)
set_option linter.unusedVariables false

def Low (f : UInt8 → UInt8) : Prop := f 0 = 0 ∧ ∀ c, f c = c ∨ (c.toNat < 128 ∧ (f c).toNat < 128)
theorem low_of (f : UInt8 → UInt8) (h : ∀ n : Fin 256, f (UInt8.ofNat n.val) = UInt8.ofNat n.val ∨ ((UInt8.ofNat n.val).toNat < 128 ∧ (f (UInt8.ofNat n.val)).toNat < 128)) (h0 : f 0 = 0) : Low f := ⟨h0, fun c => by
  have := h ⟨c.toNat, c.toNat_lt⟩
  simpa using this⟩
theorem low_lo : Low lo := low_of lo (by decide +kernel) rfl
theorem ld_low (b : Int) (h : (ld b).1 = 4 ∨ (ld b).1 = 3 ∨ (ld b).1 = 2) : 128 ≤ (ld b).2.1 := by
  revert h
  unfold ld
  repeat' split
  all_goals simp
theorem wi_same {f : UInt8 → UInt8} (hf : Low f) (c : UInt8) (lo hi : Int) (h : 128 ≤ lo) : wi (u (f c)) lo hi = wi (u c) lo hi := by
  rcases hf.2 c with e | ⟨h1, h2⟩
  · rw [e]
  · unfold wi u
    rw [Bool.eq_iff_iff]
    simp only [Bool.and_eq_true, decide_eq_true_eq]
    constructor
    · intro h; omega
    · intro h; omega
theorem ld_same {f : UInt8 → UInt8} (hf : Low f) (c : UInt8) : ld (u (f c)) = ld (u c) := by
  rcases hf.2 c with e | ⟨h1, h2⟩
  · rw [e]
  · unfold ld u
    rw [if_pos (by omega), if_pos (by omega)]
theorem getD_map {f : UInt8 → UInt8} (hf : Low f) (l : List UInt8) (i : Nat) : (l.map f).getD i 0 = f (l.getD i 0) := by
  simp only [List.getD, List.getElem?_map]
  cases l[i]? with
  | none => exact hf.1.symm
  | some c => rfl
theorem seq_map {f : UInt8 → UInt8} (hf : Low f) (l : List UInt8) : seqLen (l.map f) = seqLen l := by
  unfold seqLen
  simp only [List.length_map, getD_map hf, ld_same hf, wi_same hf _ 128 191 (by decide)]
  have e : (((ld (u (l.getD 0 0))).1 = 4 ∨ (ld (u (l.getD 0 0))).1 = 3 ∨ (ld (u (l.getD 0 0))).1 = 2) ∧ wi (u (f (l.getD 1 0))) (ld (u (l.getD 0 0))).2.1 (ld (u (l.getD 0 0))).2.2 = false) ↔ (((ld (u (l.getD 0 0))).1 = 4 ∨ (ld (u (l.getD 0 0))).1 = 3 ∨ (ld (u (l.getD 0 0))).1 = 2) ∧ wi (u (l.getD 1 0)) (ld (u (l.getD 0 0))).2.1 (ld (u (l.getD 0 0))).2.2 = false) :=
    and_congr_right fun h => by rw [wi_same hf _ _ _ (ld_low _ h)]
  simp only [e]
theorem check_map {f : UInt8 → UInt8} (hf : Low f) (l : List UInt8) : check (l.map f) = check l := by
  refine TextMath.check_ind (M := fun l => check (l.map f) = check l) ?_ ?_ ?_ l.length l (Nat.le_refl _)
  · rfl
  · intro l h0 h1
    rw [TextMath.check_bad l h0 h1, TextMath.check_bad (l.map f) (by rw [List.length_map]; exact h0) (by rw [seq_map hf]; exact h1)]
  · intro l h1 ih
    rw [TextMath.check_good l h1, TextMath.check_good (l.map f) (by rw [seq_map hf]; exact h1), seq_map hf, ← List.map_drop, ih]
theorem check_fold (l : List UInt8) : check (fold l) = check l := check_map low_lo l
theorem fold_same_check {a b : List UInt8} (h : fold a = fold b) : check a = check b := by rw [← check_fold a, h, check_fold b]
theorem fold_same_normal {a b : List UInt8} (h : fold a = fold b) : normal a = normal b := by rw [normal_eq, normal_eq, h]
theorem fold_same_ty {a b : List UInt8} (h : fold a = fold b) : tyR a = tyR b := by unfold tyR; rw [h]
theorem lo_flip (c : UInt8) (h : (97 ≤ c.toNat ∧ c.toNat ≤ 122) ∨ (65 ≤ c.toNat ∧ c.toNat ≤ 90)) : lo (c ^^^ 32) = lo c := by
  have key : ∀ n : Fin 256, ((97 ≤ (UInt8.ofNat n.val).toNat ∧ (UInt8.ofNat n.val).toNat ≤ 122) ∨ (65 ≤ (UInt8.ofNat n.val).toNat ∧ (UInt8.ofNat n.val).toNat ≤ 90)) → lo ((UInt8.ofNat n.val) ^^^ 32) = lo (UInt8.ofNat n.val) := by decide +kernel
  have h2 := key ⟨c.toNat, c.toNat_lt⟩
  rw [UInt8.ofNat_toNat] at h2
  exact h2 h
/-- A blank, and what may be put behind it. -/
def bk (f : Bool) (c : UInt8) : List UInt8 := if c = 32 ∧ f = true then [32, 10, 32] else [c]
theorem sqB_bk (f : Bool) : ∀ (l : List UInt8) (p : Bool), sqB p (l.flatMap (bk f)) = sqB p l
  | [], p => rfl
  | c :: l, p => by
    have ih := sqB_bk f l
    rw [List.flatMap_cons]
    unfold bk
    split
    · rename_i h
      obtain ⟨rfl, _⟩ := h
      show sqB p (32 :: 10 :: 32 :: (l.flatMap (bk f))) = sqB p (32 :: l)
      simp only [sqB]
      have b1 : bl 32 = true := by decide
      have b2 : bl 10 = true := by decide
      simp [b1, b2, ih]
    · show sqB p (c :: (l.flatMap (bk f))) = sqB p (c :: l)
      simp only [sqB]
      simp [ih]
theorem sqA_bk (f : Bool) : ∀ (l : List UInt8), sqA (l.flatMap (bk f)) = sqA l
  | [] => rfl
  | c :: l => by
    have ih := sqA_bk f l
    have ih2 := sqB_bk f l
    rw [List.flatMap_cons]
    unfold bk
    split
    · rename_i h
      obtain ⟨rfl, _⟩ := h
      show sqA (32 :: 10 :: 32 :: (l.flatMap (bk f))) = sqA (32 :: l)
      simp only [sqA]
      have b1 : bl 32 = true := by decide
      have b2 : bl 10 = true := by decide
      simp [b1, b2, ih]
    · show sqA (c :: (l.flatMap (bk f))) = sqA (c :: l)
      simp only [sqA]
      simp [ih, ih2]
theorem fold_bk (f : Bool) (l : List UInt8) : fold (l.flatMap (bk f)) = (fold l).flatMap (bk f) := by
  induction l with
  | nil => rfl
  | cons c l ih =>
    rw [List.flatMap_cons, TextMath.fold_app, ih, show fold (c :: l) = lo c :: fold l from rfl, List.flatMap_cons]
    congr 1
    unfold bk
    by_cases h : c = 32
    · subst h
      have : lo 32 = 32 := by decide
      rw [this]
      cases f <;> rfl
    · have h2 : lo c ≠ 32 := by
        intro e
        have hb : bl (lo c) = true := by rw [e]; decide
        have : (lo c).toNat = 32 := by rw [e]; rfl
        rw [TextMath.lo_toNat] at this
        split at this
        · omega
        · exact h (UInt8.toNat_inj.1 this)
      simp [h, h2, fold]
theorem sq_left (c : UInt8) (l : List UInt8) (h : bl c = true) : sqA (c :: l) = sqA l := by
  simp [sqA, h]
theorem sq_right (l : List UInt8) (c : UInt8) (h : bl c = true) : sqA (l ++ [c]) = sqA l := by
  rw [TextMath.sqA_app l [] c h]
  unfold TextMath.join
  simp [sqA]
/-- A value with other blanks. -/
def blk (b1 b2 b3 : Bool) (v : List UInt8) : List UInt8 := (if b1 = true then [9] else []) ++ v.flatMap (bk b2) ++ (if b3 = true then [32, 13] else [])
theorem normal_blk (b1 b2 b3 : Bool) (v : List UInt8) : normal (blk b1 b2 b3 v) = normal v := by
  have e3 : ∀ l : List UInt8, sqA (l ++ [32, 13]) = sqA l := fun l => by
    rw [show l ++ [32, 13] = (l ++ [32]) ++ [13] from by simp, sq_right _ 13 (by decide), sq_right _ 32 (by decide)]
  have f9 : fold [9] = [9] := by decide
  have f13 : fold [32, 13] = [32, 13] := by decide
  rw [normal_eq, normal_eq]
  unfold blk
  rw [TextMath.fold_app, TextMath.fold_app, fold_bk]
  cases b1 <;> cases b3
  · simp [fold, sqA_bk]
  · rw [if_pos rfl, f13, e3]
    simp [fold, sqA_bk]
  · rw [if_pos rfl, f9]
    simp only [Bool.false_eq_true, if_false]
    rw [show fold [] = [] from rfl, List.append_nil, List.singleton_append, sq_left _ _ (by decide), sqA_bk]
  · rw [if_pos rfl, if_pos rfl, f9, f13, e3, List.singleton_append, sq_left _ _ (by decide), sqA_bk]
theorem blk_len (b1 b2 b3 : Bool) (v : List UInt8) : (blk b1 b2 b3 v).length ≤ 3 * v.length + 3 := by
  have h : ∀ l : List UInt8, (l.flatMap (bk b2)).length ≤ 3 * l.length := by
    intro l
    induction l with
    | nil => simp
    | cons c l ih =>
      rw [List.flatMap_cons, List.length_append, List.length_cons]
      have : (bk b2 c).length ≤ 3 := by unfold bk; split <;> simp
      omega
  have := h v
  unfold blk
  rw [List.length_append, List.length_append]
  generalize (v.flatMap (bk b2)).length = m at *
  cases b1 <;> cases b3 <;> simp <;> omega
theorem ld_hi (b : Int) (h : (ld b).1 = 4 ∨ (ld b).1 = 3 ∨ (ld b).1 = 2) : 128 ≤ b := by
  unfold ld at h
  by_cases h0 : b ≤ 127
  · rw [if_pos h0] at h
    simp at h
  · omega
theorem seq_high (l : List UInt8) (h2 : 2 ≤ seqLen l) : ∀ i, i < seqLen l → 128 ≤ (l.getD i 0).toNat := by
  have e := rfl (a := seqLen l)
  conv at e => rhs; unfold seqLen
  dsimp only at e
  split at e
  · omega
  · split at e
    · omega
    · split at e
      · omega
      · split at e
        · omega
        · rename_i a1 a2 a3 a4
          have hn : (ld (u (l.getD 0 0))).1 = 4 ∨ (ld (u (l.getD 0 0))).1 = 3 ∨ (ld (u (l.getD 0 0))).1 = 2 := by
            rcases ld_cases (u (l.getD 0 0)) with h | h | h | h | h <;> rw [h] at e <;> simp at e <;> omega
          have q0 := ld_hi _ hn
          have q1 : 128 ≤ (l.getD 1 0).toNat := by
            have hw : wi (u (l.getD 1 0)) (ld (u (l.getD 0 0))).2.1 (ld (u (l.getD 0 0))).2.2 = true := by
              cases hh : wi (u (l.getD 1 0)) (ld (u (l.getD 0 0))).2.1 (ld (u (l.getD 0 0))).2.2 with
              | true => rfl
              | false => exact absurd ⟨hn, hh⟩ a4
            have hl := ld_low _ hn
            unfold wi at hw
            rw [Bool.and_eq_true, decide_eq_true_eq] at hw
            have : (u (l.getD 1 0)) = ((l.getD 1 0).toNat : Int) := rfl
            omega
          have q2 : ((ld (u (l.getD 0 0))).1 = 4 ∨ (ld (u (l.getD 0 0))).1 = 3) → 128 ≤ (l.getD 2 0).toNat := fun hh => by
            have hw : wi (u (l.getD 2 0)) 128 191 = true := by
              cases hx : wi (u (l.getD 2 0)) 128 191 with
              | true => rfl
              | false => exact absurd ⟨hh, hx⟩ a3
            unfold wi at hw
            rw [Bool.and_eq_true, decide_eq_true_eq] at hw
            have : (u (l.getD 2 0)) = ((l.getD 2 0).toNat : Int) := rfl
            omega
          have q3 : (ld (u (l.getD 0 0))).1 = 4 → 128 ≤ (l.getD 3 0).toNat := fun hh => by
            have hw : wi (u (l.getD 3 0)) 128 191 = true := by
              cases hx : wi (u (l.getD 3 0)) 128 191 with
              | true => rfl
              | false => exact absurd ⟨hh, hx⟩ a2
            unfold wi at hw
            rw [Bool.and_eq_true, decide_eq_true_eq] at hw
            have : (u (l.getD 3 0)) = ((l.getD 3 0).toNat : Int) := rfl
            omega
          have q0' : 128 ≤ (l.getD 0 0).toNat := by
            have : (u (l.getD 0 0)) = ((l.getD 0 0).toNat : Int) := rfl
            omega
          intro i hi
          rcases hn with h | h | h
          · rw [h] at e
            have : i = 0 ∨ i = 1 ∨ i = 2 ∨ i = 3 := by simp at e; omega
            rcases this with rfl | rfl | rfl | rfl
            · exact q0'
            · exact q1
            · exact q2 (Or.inl h)
            · exact q3 h
          · rw [h] at e
            have : i = 0 ∨ i = 1 ∨ i = 2 := by simp at e; omega
            rcases this with rfl | rfl | rfl
            · exact q0'
            · exact q1
            · exact q2 (Or.inr h)
          · rw [h] at e
            have : i = 0 ∨ i = 1 := by simp at e; omega
            rcases this with rfl | rfl
            · exact q0'
            · exact q1
theorem bk_none (f : Bool) : ∀ (l : List UInt8), (∀ c ∈ l, c ≠ 32) → l.flatMap (bk f) = l
  | [], _ => rfl
  | c :: l, h => by
    rw [List.flatMap_cons, bk_none f l (fun x hx => h x (List.mem_cons_of_mem _ hx))]
    unfold bk
    rw [if_neg (fun e => h c (List.mem_cons_self ..) e.1)]
    rfl
theorem check_bk (f : Bool) : ∀ (n : Nat) (l : List UInt8), l.length ≤ n → (check l).1 = true → (check (l.flatMap (bk f))).1 = true := by
  refine check_ind (M := fun l => (check l).1 = true → (check (l.flatMap (bk f))).1 = true) (fun h => h) (fun l h1 h2 h => ?_) (fun l h1 ih h => ?_)
  · rw [check_bad l h1 h2] at h
    cases h
  · rw [check_good l h1] at h
    have h3 := ih h
    have hl : l.flatMap (bk f) = (l.take (seqLen l)).flatMap (bk f) ++ (l.drop (seqLen l)).flatMap (bk f) := by rw [← List.flatMap_append, List.take_append_drop]
    have hle := seqLen_le l
    have ht : (check (l.take (seqLen l))).1 = true := by
      have e := TextMath.seqLen_take l (seqLen l) (Nat.le_refl _) (by omega)
      rw [check_good _ (by rw [e]; exact h1), e]
      rw [List.drop_eq_nil_of_le (by rw [List.length_take]; omega)]
      rfl
    have h4 : (check ((l.take (seqLen l)).flatMap (bk f))).1 = true := by
      by_cases h2 : 2 ≤ seqLen l
      · rw [bk_none f _ (fun c hc e => ?_)]
        · exact ht
        · obtain ⟨i, hi, hx⟩ := List.getElem_of_mem hc
          rw [List.length_take] at hi
          have := seq_high l h2 i (by omega)
          rw [List.getElem_take] at hx
          rw [List.getD_eq_getElem?_getD, List.getElem?_eq_getElem (by omega), hx, e] at this
          exact absurd this (by decide)
      · have h1' : seqLen l = 1 := by omega
        rw [h1'] at ht ⊢
        match l, hle with
        | [], hh => rw [h1'] at hh; simp at hh
        | c :: r, _ =>
          show (check ([c].flatMap (bk f))).1 = true
          have ht' : (check [c]).1 = true := ht
          rw [List.flatMap_cons, List.flatMap_nil, List.append_nil]
          unfold bk
          split
          · decide
          · exact ht'
    rw [hl, check_app_good _ _ h4]
    exact h3
theorem utf_blk (b1 b2 b3 : Bool) (v : List UInt8) (h : utf v = true) : utf (blk b1 b2 b3 v) = true := by
  unfold utf at *
  have h1 := check_bk b2 v.length v (Nat.le_refl _) h
  have e1 : (check (if b1 = true then [9] else [])).1 = true := by cases b1 <;> decide
  have e3 : (check (if b3 = true then [32, 13] else [])).1 = true := by cases b3 <;> decide
  unfold blk
  have h2 : (check ((if b1 = true then [9] else []) ++ v.flatMap (bk b2))).1 = true := by rw [check_app_good _ _ e1]; exact h1
  rw [check_app_good _ _ h2]
  exact e3
end Bl
end Go.Proofs.YtihjlcclaoofhaaDoor

namespace Go.Proofs.YtihjlcclaoofhaaDoor
namespace Pa
open TextMath (fold lo normal check wo seqLen check_good check_bad check_ind check_app_good seqLen_le)
open Ke (tyOk tyC tyR utf PR mst ec escF escV pt1 ptT ptx OkP OkI OkD Gd typ_good)
set_option linter.unusedVariables false
set_option linter.unusedSimpArgs false

/-- Nothing, or a comma or a plus. -/
def En (r : List UInt8) : Prop := r = [] ∨ ∃ c t, r = c :: t ∧ (c = 44 ∨ c = 43)
theorem En.kO {r : List UInt8} (h : En r) : kO r = 0 := by
  rcases h with rfl | ⟨c, t, rfl, h⟩
  · rfl
  · unfold Pa.kO
    simp [h]
def mstB : List UInt8 := [92, 34, 43, 44, 59, 60, 62]
theorem mst_es {n i : Nat} {b : UInt8} (h : mst n i b = true) : es b = true := by
  have h2 : b = 92 ∨ b = 34 ∨ b = 43 ∨ b = 44 ∨ b = 59 ∨ b = 60 ∨ b = 62 ∨ b = 35 ∨ b = 32 := by
    unfold mst at h
    simp only [Bool.or_eq_true, Bool.and_eq_true, beq_iff_eq] at h
    rcases h with (((((((h | h) | h) | h) | h) | h) | h) | ⟨h, _⟩) | ⟨h, _⟩ <;> simp [h]
  rcases h2 with rfl | rfl | rfl | rfl | rfl | rfl | rfl | rfl | rfl <;> decide
theorem not_mst {n i : Nat} {b : UInt8} (h : mst n i b = false) : b ≠ 92 ∧ b ≠ 44 ∧ b ≠ 43 ∧ (b = 0 ∨ bar b = false) ∧ (b = 32 → i ≠ 0 ∧ i + 1 ≠ n) ∧ (b = 35 → i ≠ 0) := by
  unfold mst at h
  simp only [Bool.or_eq_false_iff, Bool.and_eq_false_iff, beq_eq_false_iff_ne] at h
  obtain ⟨⟨⟨⟨⟨⟨⟨⟨h1, h2⟩, h3⟩, h4⟩, h5⟩, h6⟩, h7⟩, h8⟩, h9⟩ := h
  refine ⟨h1, h4, h3, ?_, fun e => ?_, fun e => ?_⟩
  · by_cases h0 : b = 0
    · exact Or.inl h0
    · right
      unfold bar
      simp [h0, h2, h5, h6, h7]
  · rcases h9 with h9 | h9
    · exact absurd e h9
    · simpa using h9
  · rcases h8 with h8 | h8
    · exact absurd e h8
    · simpa using h8
theorem hb00 : hb 48 48 = 0 := by decide
/-- One byte of a printed value is read back. -/
theorem tv_one {n N i : Nat} {b : UInt8} {X a : List UInt8} {c : Nat} (hN : i < N) : ∃ c', tv (n + 1) (ec N i b ++ X) a c = tv n X (a ++ [b]) c' ∧ (i + 1 = N → c' = a.length + 1) := by
  unfold ec
  by_cases h0 : b = 0
  · subst h0
    refine ⟨a.length + 1, ?_, fun _ => rfl⟩
    rw [if_pos rfl, tv_step]
    have hk : kO ([92, 48, 48] ++ X) = 3 := by
      show kO (92 :: 48 :: 48 :: X) = 3
      unfold kO kB
      have e1 : es 48 = false := by decide
      have e2 : hd 48 = true := by decide
      simp [e1, e2]
    rw [hk]
    simp only [if_neg (by decide : ¬ (3 : Nat) = 0), if_neg (by decide : ¬ (3 : Nat) = 1), if_neg (by decide : ¬ (3 : Nat) = 2), if_pos]
    show tv n X (a ++ [hb 48 48]) (a.length + 1) = _
    rw [hb00]
  · rw [if_neg h0]
    by_cases hm : mst N i b = true
    · rw [if_pos hm]
      refine ⟨a.length + 1, ?_, fun _ => rfl⟩
      rw [tv_step]
      have hk : kO ([92, b] ++ X) = 4 := by
        show kO (92 :: b :: X) = 4
        unfold kO kB
        simp [mst_es hm]
      rw [hk]
      rfl
    · have hm' : mst N i b = false := by simpa using hm
      rw [if_neg hm]
      obtain ⟨m1, m2, m3, m4, m5, m6⟩ := not_mst hm'
      have hbar : bar b = false := m4.resolve_left h0
      by_cases h32 : b = 32
      · refine ⟨c, ?_, fun e => absurd e (m5 h32).2⟩
        rw [tv_step]
        have hk : kO ([b] ++ X) = 6 := by
          show kO (b :: X) = 6
          unfold kO
          simp [m1, m2, m3, hbar, h32]
          subst h32
          simp [hbar]
        rw [hk]
        rfl
      · refine ⟨a.length + 1, ?_, fun _ => rfl⟩
        rw [tv_step]
        have hk : kO ([b] ++ X) = 5 := by
          show kO (b :: X) = 5
          unfold kO
          simp [m1, m2, m3, hbar, h32]
        rw [hk]
        rfl
theorem tv_esc (N : Nat) (r : List UInt8) (hr : En r) : ∀ (l : List UInt8) (n i : Nat) (a : List UInt8) (c : Nat), N = i + l.length → l.length < n → a.length = i → (l = [] → c = a.length) → tv n (escF N i l ++ r) a c = .ok (a ++ l, r)
  | [], n, i, a, c, hN, hn, ha, hc => by
    obtain ⟨m, rfl⟩ : ∃ m, n = m + 1 := ⟨n - 1, by simp at hn; omega⟩
    show tv (m + 1) ([] ++ r) a c = _
    rw [List.nil_append, tv_step, hr.kO, if_pos rfl, hc rfl, List.take_length, List.append_nil]
  | b :: l, n, i, a, c, hN, hn, ha, hc => by
    obtain ⟨m, rfl⟩ : ∃ m, n = m + 1 := ⟨n - 1, by simp at hn; omega⟩
    rw [List.length_cons] at hN hn
    obtain ⟨c', e, hc'⟩ := tv_one (n := m) (N := N) (i := i) (b := b) (X := escF N (i + 1) l ++ r) (a := a) (c := c) (by omega)
    show tv (m + 1) ((ec N i b ++ escF N (i + 1) l) ++ r) a c = _
    rw [List.append_assoc, e, tv_esc N r hr l m (i + 1) (a ++ [b]) c' (by omega) (by omega) (by simp [ha]) (fun hl => by
      subst hl
      rw [List.length_append]
      exact hc' (by simp at hN; omega))]
    simp
theorem escF_len (N : Nat) : ∀ (l : List UInt8) (i : Nat), l.length ≤ (escF N i l).length
  | [], _ => Nat.zero_le _
  | b :: t, i => by
    have := escF_len N t (i + 1)
    have h1 : 1 ≤ (ec N i b).length := by unfold ec; split <;> (try split) <;> simp
    simp only [escF, List.length_append, List.length_cons]
    omega
theorem esc_head (v r : List UInt8) (hr : En r) : (escV v ++ r).head? ≠ some 35 ∧ (escV v ++ r).head? ≠ some 32 := by
  unfold escV
  cases v with
  | nil =>
    show (([] : List UInt8) ++ r).head? ≠ some 35 ∧ (([] : List UInt8) ++ r).head? ≠ some 32
    rw [List.nil_append]
    rcases hr with rfl | ⟨c, t, rfl, h⟩
    · exact ⟨by simp, by simp⟩
    · rcases h with rfl | rfl <;> exact ⟨by simp, by simp⟩
  | cons b t =>
    show ((ec (b :: t).length 0 b ++ escF (b :: t).length 1 t) ++ r).head? ≠ _ ∧ ((ec (b :: t).length 0 b ++ escF (b :: t).length 1 t) ++ r).head? ≠ _
    rw [List.append_assoc]
    unfold ec
    by_cases h0 : b = 0
    · rw [if_pos h0]; exact ⟨by simp, by simp⟩
    · rw [if_neg h0]
      by_cases hm : mst (b :: t).length 0 b = true
      · rw [if_pos hm]; exact ⟨by simp, by simp⟩
      · rw [if_neg hm]
        obtain ⟨_, _, _, _, m5, m6⟩ := not_mst (by simpa using hm : mst (b :: t).length 0 b = false)
        exact ⟨by simp only [List.singleton_append, List.head?_cons]; intro e; injection e with e; exact m6 e rfl, by simp only [List.singleton_append, List.head?_cons]; intro e; injection e with e; exact (m5 e).1 rfl⟩
theorem sp_id {l : List UInt8} (h : l.head? ≠ some 32) : sp l = l := by
  unfold sp
  cases l with
  | nil => rfl
  | cons c t =>
    rw [List.dropWhile_cons]
    have : (c == 32) = false := by rw [beq_eq_false_iff_ne]; intro e; subst e; exact h rfl
    simp [this]
theorem pv_esc (hx : List UInt8 → Option VR) (v r : List UInt8) (hr : En r) (hu : utf v = true) : pv hx (escV v ++ r) = some (.ok (v, r)) := by
  unfold pv
  rw [if_neg (esc_head v r hr).1]
  have : tv ((escV v ++ r).length + 1) (escV v ++ r) [] 0 = .ok (v, r) := by
    have := tv_esc v.length r hr v ((escV v ++ r).length + 1) 0 [] 0 (by omega) (by
      have := escF_len v.length v 0
      rw [List.length_append]
      unfold escV
      omega) rfl (fun _ => rfl)
    rw [List.nil_append] at this
    exact this
  rw [this]
  simp [hu]
theorem tb_lo (c : UInt8) (h : Gd (lo c)) : tb c = true := by
  have key : ∀ n : Fin 256, (Go.Proofs.YtihjlcclaoofhaaDoor.isK (lo (UInt8.ofNat n.val)) = true ∨ (lo (UInt8.ofNat n.val)).toNat = 46) → tb (UInt8.ofNat n.val) = true := by decide +kernel
  have h2 := key ⟨c.toNat, c.toNat_lt⟩
  rw [UInt8.ofNat_toNat] at h2
  exact h2 h
theorem ty_tb (t : List UInt8) (h : tyOk t = true) : ∀ c ∈ t, tb c = true := by
  unfold tyOk at h
  have h := of_decide_eq_true h
  unfold tyR parsT at h
  split at h
  · rename_i hc
    intro c hm
    have hk := typ_good (S (fold t)).data.toList
    rw [List.take_of_length_le (by rw [size_l]; omega), S_l] at hk
    exact tb_lo c (hk (lo c) (List.mem_map_of_mem hm))
  · simp at h
theorem tw_all (p : UInt8 → Bool) (t r : List UInt8) (h : ∀ c ∈ t, p c = true) (hr : ∀ c, r.head? = some c → p c = false) : (t ++ r).takeWhile p = t ∧ (t ++ r).dropWhile p = r := by
  induction t with
  | nil =>
    rw [List.nil_append]
    cases r with
    | nil => exact ⟨rfl, rfl⟩
    | cons c r => rw [List.takeWhile_cons, List.dropWhile_cons, hr c rfl]; exact ⟨rfl, rfl⟩
  | cons c t ih =>
    obtain ⟨h1, h2⟩ := ih (fun x hx => h x (List.mem_cons_of_mem _ hx))
    rw [List.cons_append, List.takeWhile_cons, List.dropWhile_cons, h c (List.mem_cons_self ..)]
    simp [h1, h2]
theorem pt_ok (ahead : List (List UInt8)) (t r : List UInt8) (ht : tyOk t = true) (ha : tyC t ∉ ahead) (hr : r.head? ≠ some 32) : pt ahead (t ++ 61 :: r) = .ok (t, r) := by
  obtain ⟨h1, h2⟩ := tw_all tb t (61 :: r) (ty_tb t ht) (fun c e => by simp at e; subst e; decide)
  unfold pt
  rw [h1, h2, if_neg (by rw [ht]; decide), if_neg ha, sp_id (by simp), if_pos (by simp)]
  show Except.ok (t, sp r) = _
  rw [sp_id hr]
theorem ty_head (t r : List UInt8) (h : tyOk t = true) : (t ++ 61 :: r).head? ≠ some 32 := by
  have h2 := ty_tb t h
  cases t with
  | nil => simp
  | cons c t =>
    intro e
    simp at e
    have := h2 c (List.mem_cons_self ..)
    rw [e] at this
    revert this
    decide
/-- A part that was printed is read back. -/
theorem prt_ok (hx : List UInt8 → Option VR) (num : Nat) (hnum : num ≠ 64) (r : List UInt8) (hr : r = [] ∨ ∃ t, r = 44 :: t) : ∀ (k : List PR) (p : PR) (n : Nat) (ps : List PR), OkP (ps ++ p :: k) → k.length < n → prt hx n num ps (pt1 p ++ (ptT k ++ r)) = some (.ok (ps ++ p :: k, r)) := by
  intro k
  induction k with
  | nil =>
    intro p n ps hok hn
    obtain ⟨m, rfl⟩ : ∃ m, n = m + 1 := ⟨n - 1, by omega⟩
    have hE : En r := by
      rcases hr with rfl | ⟨t, rfl⟩
      · exact Or.inl rfl
      · exact Or.inr ⟨_, _, rfl, Or.inl rfl⟩
    have h8 : ps.length ≠ 8 := by have := hok.2.1; simp at this; omega
    obtain ⟨hi, h1, h2, h3⟩ := hok.2.2 ps.length (by simp)
    rw [List.getElem_append_right (Nat.le_refl _)] at h1 h2 h3
    simp only [Nat.sub_self, List.getElem_cons_zero] at h1 h2 h3
    rw [List.take_left] at h2
    show prt hx (m + 1) num ps (pt1 p ++ ([] ++ r)) = _
    rw [List.nil_append]
    unfold prt pt1
    rw [if_neg (by omega), List.append_assoc, List.cons_append, sp_id (ty_head _ _ h1), pt_ok _ _ _ h1 h2 (esc_head p.2 r hE).2]
    dsimp only
    rw [pv_esc hx _ _ hE h3]
    dsimp only
    rw [if_neg (by rcases hr with rfl | ⟨t, rfl⟩ <;> simp)]
  | cons q k ih =>
    intro p n ps hok hn
    rw [List.length_cons] at hn
    obtain ⟨m, rfl⟩ : ∃ m, n = m + 1 := ⟨n - 1, by omega⟩
    have e : ptT (q :: k) ++ r = 43 :: (pt1 q ++ (ptT k ++ r)) := by simp [ptT]
    have hE : En (ptT (q :: k) ++ r) := by rw [e]; exact Or.inr ⟨_, _, rfl, Or.inr rfl⟩
    have h8 : ps.length ≠ 8 := by have := hok.2.1; simp at this; omega
    obtain ⟨hi, h1, h2, h3⟩ := hok.2.2 ps.length (by simp)
    rw [List.getElem_append_right (Nat.le_refl _)] at h1 h2 h3
    simp only [Nat.sub_self, List.getElem_cons_zero] at h1 h2 h3
    rw [List.take_left] at h2
    have hrec := ih q m (ps ++ [p]) (by rw [List.append_assoc]; exact hok) (by omega)
    unfold prt
    rw [if_neg (by omega)]
    show (match pt (ps.map fun p => tyC p.1) (sp ((p.1 ++ 61 :: escV p.2) ++ (ptT (q :: k) ++ r))) with | .error e => _ | .ok x => _) = _
    rw [List.append_assoc, List.cons_append, sp_id (ty_head _ _ h1), pt_ok _ _ _ h1 h2 (esc_head p.2 _ hE).2]
    dsimp only
    rw [pv_esc hx _ _ hE h3]
    dsimp only
    rw [if_pos (by rw [e]; rfl), e]
    show prt hx m num (ps ++ [p]) (pt1 q ++ (ptT k ++ r)) = _
    rw [hrec, List.append_assoc]
    rfl
end Pa
end Go.Proofs.YtihjlcclaoofhaaDoor

namespace Go.Proofs.YtihjlcclaoofhaaDoor
namespace Pa
open TextMath (fold lo normal check wo seqLen check_good check_bad check_ind check_app_good seqLen_le)
open Ke (tyOk tyC tyR utf PR mst ec escF escV pt1 ptT ptx OkP OkI OkD Gd typ_good)
set_option linter.unusedVariables false
set_option linter.unusedSimpArgs false

theorem chk_low (c : UInt8) (h : c.toNat < 128) : (check [c]).1 = true := by
  have key : ∀ n : Fin 128, (check [UInt8.ofNat n.val]).1 = true := by decide +kernel
  have := key ⟨c.toNat, h⟩
  rw [UInt8.ofNat_toNat] at this
  exact this
theorem chk_app {a b : List UInt8} (h : (check a).1 = true) (h2 : (check b).1 = true) : (check (a ++ b)).1 = true := by
  rw [check_app_good _ _ h]
  exact h2
theorem chk_asc : ∀ (l : List UInt8), (∀ c ∈ l, c.toNat < 128) → (check l).1 = true
  | [], _ => rfl
  | c :: l, h => by
    have h1 := chk_low c (h c (List.mem_cons_self ..))
    have h2 := chk_asc l (fun x hx => h x (List.mem_cons_of_mem _ hx))
    exact chk_app (a := [c]) h1 h2
theorem tb_low (c : UInt8) (h : tb c = true) : c.toNat < 128 := by
  unfold tb at h
  simp only [Bool.or_eq_true, decide_eq_true_eq] at h
  omega
theorem escF_app (N : Nat) : ∀ (a b : List UInt8) (i : Nat), escF N i (a ++ b) = escF N i a ++ escF N (i + a.length) b
  | [], b, i => by simp [escF]
  | x :: a, b, i => by
    have := escF_app N a b (i + 1)
    simp only [List.cons_append, escF, this, List.append_assoc, List.length_cons]
    rw [show i + 1 + a.length = i + (a.length + 1) from by omega]
theorem ec_high (N i : Nat) (b : UInt8) (h : 128 ≤ b.toNat) : ec N i b = [b] := by
  unfold ec
  rw [if_neg (fun e => by subst e; exact absurd h (by decide))]
  rw [if_neg]
  intro hm
  have := mst_es hm
  have h2 : ∀ n : Fin 256, 128 ≤ (UInt8.ofNat n.val).toNat → es (UInt8.ofNat n.val) = false := by decide +kernel
  have h3 := h2 ⟨b.toNat, b.toNat_lt⟩
  rw [UInt8.ofNat_toNat] at h3
  rw [h3 h] at this
  cases this
theorem escF_high (N : Nat) : ∀ (l : List UInt8) (i : Nat), (∀ c ∈ l, 128 ≤ c.toNat) → escF N i l = l
  | [], _, _ => rfl
  | c :: l, i, h => by
    rw [show escF N i (c :: l) = ec N i c ++ escF N (i + 1) l from rfl, ec_high N i c (h c (List.mem_cons_self ..)), escF_high N l (i + 1) (fun x hx => h x (List.mem_cons_of_mem _ hx))]
    rfl
theorem chk_ec (N i : Nat) (c : UInt8) (h : (check [c]).1 = true) : (check (ec N i c)).1 = true := by
  unfold ec
  split
  · decide
  · split
    · exact chk_app (a := [92]) (by decide) h
    · exact h
theorem chk_esc (N : Nat) : ∀ (n : Nat) (l : List UInt8), l.length ≤ n → ∀ i, (check l).1 = true → (check (escF N i l)).1 = true := by
  refine check_ind (M := fun l => ∀ i, (check l).1 = true → (check (escF N i l)).1 = true) (fun i h => h) (fun l h1 h2 i h => ?_) (fun l h1 ih i h => ?_)
  · rw [check_bad l h1 h2] at h
    cases h
  · rw [check_good l h1] at h
    have hle := seqLen_le l
    have hl : escF N i l = escF N i (l.take (seqLen l)) ++ escF N (i + (l.take (seqLen l)).length) (l.drop (seqLen l)) := by rw [← escF_app, List.take_append_drop]
    have h3 := ih (i + (l.take (seqLen l)).length) h
    have ht : (check (l.take (seqLen l))).1 = true := by
      have e := TextMath.seqLen_take l (seqLen l) (Nat.le_refl _) (by omega)
      rw [check_good _ (by rw [e]; exact h1), e]
      rw [List.drop_eq_nil_of_le (by rw [List.length_take]; omega)]
      rfl
    rw [hl]
    refine chk_app ?_ h3
    by_cases h2 : 2 ≤ seqLen l
    · rw [escF_high N _ i (fun c hc => ?_)]
      · exact ht
      · obtain ⟨k, hk, hx⟩ := List.getElem_of_mem hc
        rw [List.length_take] at hk
        have := Bl.seq_high l h2 k (by omega)
        rw [List.getElem_take] at hx
        rw [List.getD_eq_getElem?_getD, List.getElem?_eq_getElem (by omega), hx] at this
        exact this
    · have h1' : seqLen l = 1 := by omega
      rw [h1'] at ht ⊢
      match l, hle with
      | [], hh => rw [h1'] at hh; simp at hh
      | c :: r, _ =>
        show (check (ec N i c ++ escF N (i + 1) [])).1 = true
        have ht' : (check [c]).1 = true := ht
        show (check (ec N i c ++ [])).1 = true
        rw [List.append_nil]
        exact chk_ec N i c ht'
theorem chk_pt1 (p : PR) (h1 : tyOk p.1 = true) (h2 : utf p.2 = true) : (check (pt1 p)).1 = true := by
  unfold pt1
  refine chk_app (chk_asc _ (fun c hc => tb_low c (ty_tb p.1 h1 c hc))) (chk_app (a := [61]) (by decide) ?_)
  exact chk_esc _ _ _ (Nat.le_refl _) 0 h2
theorem chk_ptT : ∀ (l : List PR), (∀ p ∈ l, tyOk p.1 = true ∧ utf p.2 = true) → (check (ptT l)).1 = true
  | [], _ => rfl
  | p :: l, h => by
    show (check (43 :: pt1 p ++ ptT l)).1 = true
    obtain ⟨h1, h2⟩ := h p (List.mem_cons_self ..)
    exact chk_app (chk_app (a := [43]) (by decide) (chk_pt1 p h1 h2)) (chk_ptT l (fun q hq => h q (List.mem_cons_of_mem _ hq)))
theorem okP_all {l : List PR} (h : OkP l) : ∀ p ∈ l, tyOk p.1 = true ∧ utf p.2 = true := fun p hp => by
  obtain ⟨i, hi, rfl⟩ := List.getElem_of_mem hp
  obtain ⟨_, h1, _, h2⟩ := h.2.2 i hi
  exact ⟨h1, h2⟩
theorem chk_ptx (l : List PR) (h : OkP l) : (check (ptx l)).1 = true := by
  cases l with
  | nil => rfl
  | cons p l =>
    have ha := okP_all h
    obtain ⟨h1, h2⟩ := ha p (List.mem_cons_self ..)
    exact chk_app (chk_pt1 p h1 h2) (chk_ptT l (fun q hq => ha q (List.mem_cons_of_mem _ hq)))
/-- Parts with commas ahead; a name's text. -/
def dT (D : List (List PR)) : List UInt8 := D.flatMap fun r => 44 :: ptx r
def dX : List (List PR) → List UInt8
  | [] => []
  | r :: t => ptx r ++ dT t
theorem chk_dT : ∀ (D : List (List PR)), (∀ r ∈ D, OkP r) → (check (dT D)).1 = true
  | [], _ => rfl
  | r :: D, h => by
    show (check (44 :: ptx r ++ dT D)).1 = true
    exact chk_app (chk_app (a := [44]) (by decide) (chk_ptx r (h r (List.mem_cons_self ..)))) (chk_dT D (fun q hq => h q (List.mem_cons_of_mem _ hq)))
theorem utf_dX (D : List (List PR)) (h : OkD D) : utf (dX D) = true := by
  unfold utf
  cases D with
  | nil => rfl
  | cons r D => exact chk_app (chk_ptx r (h.2 r (List.mem_cons_self ..))) (chk_dT D (fun q hq => h.2 q (List.mem_cons_of_mem _ hq)))
theorem dT_form (D : List (List PR)) : dT D = [] ∨ ∃ t, dT D = 44 :: t := by
  cases D with
  | nil => exact Or.inl rfl
  | cons r D => exact Or.inr ⟨ptx r ++ dT D, by simp [dT]⟩
theorem nm_ok (hx : List UInt8 → Option VR) : ∀ (K : List (List PR)) (r : List PR) (n : Nat) (D0 : List (List PR)), OkD (D0 ++ r :: K) → K.length < n → nmP hx n D0 (ptx r ++ dT K) = some (.ok (D0 ++ r :: K)) := by
  intro K
  induction K with
  | nil =>
    intro r n D0 hok hn
    obtain ⟨m, rfl⟩ : ∃ m, n = m + 1 := ⟨n - 1, by omega⟩
    have hr := hok.2 r (by simp)
    have h64 : D0.length ≠ 64 := by have := hok.1; simp at this; omega
    obtain ⟨p, k, rfl⟩ : ∃ p k, r = p :: k := by
      cases r with
      | nil => have := hr.1; simp at this
      | cons p k => exact ⟨p, k, rfl⟩
    have hp := prt_ok hx D0.length h64 [] (Or.inl rfl) k p 9 [] hr (by have := hr.2.1; simp at this; omega)
    have hp' : prt hx 9 D0.length [] (ptx (p :: k) ++ dT []) = some (.ok (p :: k, [])) := by
      show prt hx 9 D0.length [] ((pt1 p ++ ptT k) ++ []) = _
      rw [List.append_assoc]
      exact hp
    unfold nmP
    rw [hp']
    rfl
  | cons q K ih =>
    intro r n D0 hok hn
    rw [List.length_cons] at hn
    obtain ⟨m, rfl⟩ : ∃ m, n = m + 1 := ⟨n - 1, by omega⟩
    have hr := hok.2 r (by simp)
    have h64 : D0.length ≠ 64 := by have := hok.1; simp at this; omega
    obtain ⟨p, k, rfl⟩ : ∃ p k, r = p :: k := by
      cases r with
      | nil => have := hr.1; simp at this
      | cons p k => exact ⟨p, k, rfl⟩
    have e : dT (q :: K) = 44 :: (ptx q ++ dT K) := by simp [dT]
    have hp := prt_ok hx D0.length h64 (dT (q :: K)) (Or.inr ⟨_, e⟩) k p 9 [] hr (by have := hr.2.1; simp at this; omega)
    have hrec := ih q m (D0 ++ [p :: k]) (by rw [List.append_assoc]; exact hok) (by omega)
    have hp' : prt hx 9 D0.length [] (ptx (p :: k) ++ dT (q :: K)) = some (.ok (p :: k, dT (q :: K))) := by
      show prt hx 9 D0.length [] ((pt1 p ++ ptT k) ++ dT (q :: K)) = _
      rw [List.append_assoc]
      exact hp
    unfold nmP
    rw [hp']
    dsimp only
    rw [if_pos (by rw [e]; rfl), e]
    show nmP hx m (D0 ++ [p :: k]) (ptx q ++ dT K) = _
    rw [hrec, List.append_assoc]
    rfl
theorem pt1_ne (p : PR) (X : List UInt8) : pt1 p ++ X ≠ [] := by
  unfold pt1
  simp
/-- What was printed is read back. -/
theorem prs_print (hx : List UInt8 → Option VR) (D : List (List PR)) (hD : OkD D) (hl : (dX D).length ≤ 4096) : prs hx (dX D) = some (.ok D) := by
  unfold prs
  rw [if_neg (by omega), if_neg (by rw [utf_dX D hD]; decide)]
  cases D with
  | nil => rfl
  | cons r K =>
    have hr := hD.2 r (by simp)
    obtain ⟨p, k, rfl⟩ : ∃ p k, r = p :: k := by
      cases r with
      | nil => have := hr.1; simp at this
      | cons p k => exact ⟨p, k, rfl⟩
    have hne : dX ((p :: k) :: K) ≠ [] := by
      show (pt1 p ++ ptT k) ++ dT K ≠ []
      rw [List.append_assoc]
      exact pt1_ne p _
    rw [if_neg hne]
    exact nm_ok hx K (p :: k) 65 [] hD (by have := hD.1; simp at this; omega)
end Pa
end Go.Proofs.YtihjlcclaoofhaaDoor

namespace Go.Proofs.YtihjlcclaoofhaaDoor
namespace Pa
open Ke (tyOk tyC tyR utf PR mst ec escF escV pt1 ptT ptx OkP OkI OkD escF_snoc)
set_option linter.unusedVariables false

/-- Must the byte at the place i be escaped? -/
def mu (l : List UInt8) (i : Nat) : Bool := l.getD i 0 == 0 || mst l.length i (l.getD i 0)
/-- What its escape adds. -/
def ex (l : List UInt8) (i : Nat) : Nat := if mu l i = true then (if l.getD i 0 = 0 then 2 else 1) else 0
def exS (l : List UInt8) (k : Nat) : Nat := ((List.range k).map (ex l)).sum
theorem exS_succ (l : List UInt8) (k : Nat) : exS l (k + 1) = exS l k + ex l k := by
  unfold exS
  rw [List.range_succ, List.map_append, List.sum_append]
  simp
theorem ec_len (l : List UInt8) (i : Nat) : (ec l.length i (l.getD i 0)).length = 1 + ex l i := by
  unfold ec ex mu
  generalize l.getD i 0 = c
  generalize l.length = N
  by_cases h0 : c = 0
  · subst h0
    simp
  · have hz : (c == 0) = false := by rw [beq_eq_false_iff_ne]; exact h0
    rw [if_neg h0, hz, Bool.false_or]
    cases hm : mst N i c with
    | true => simp [h0]
    | false => simp
theorem escF_pre (l : List UInt8) : ∀ k, k ≤ l.length → (escF l.length 0 (l.take k)).length = k + exS l k
  | 0, _ => by simp [escF, exS]
  | k + 1, h => by
    have ih := escF_pre l k (by omega)
    have e : l.take (k + 1) = l.take k ++ [l.getD k 0] := by
      rw [List.take_succ_eq_append_getElem (by omega), List.getD_eq_getElem?_getD, List.getElem?_eq_getElem (by omega)]
      rfl
    rw [e, escF_snoc, List.length_append, ih, exS_succ, List.length_take, Nat.zero_add, Nat.min_eq_left (by omega), ec_len]
    omega
theorem escV_len (l : List UInt8) : (escV l).length = l.length + exS l l.length := by
  have := escF_pre l l.length (Nat.le_refl _)
  rw [List.take_length] at this
  exact this
theorem ex_le (l : List UInt8) (i : Nat) : ex l i ≤ 2 := by unfold ex; split <;> (try split) <;> omega
theorem exS_le (l : List UInt8) : ∀ k, exS l k ≤ 2 * k
  | 0 => by simp [exS]
  | k + 1 => by
    have := exS_le l k
    have := ex_le l k
    rw [exS_succ]
    omega
/-- What a pair counts. -/
def pW (p : PR) : Nat := p.1.length + 1 + p.2.length + 1 + exS p.2 p.2.length
def rS (r : List PR) : Nat := (r.map pW).sum
def dS (D : List (List PR)) : Nat := (D.map rS).sum
theorem pt1_len (p : PR) : (pt1 p).length + 1 = pW p := by
  unfold pt1 pW
  rw [List.length_append, List.length_cons, escV_len]
  omega
theorem ptT_len : ∀ l : List PR, (ptT l).length = rS l
  | [] => rfl
  | p :: l => by
    have h1 := pt1_len p
    have h2 := ptT_len l
    show ((43 :: pt1 p) ++ ptT l).length = _
    unfold rS at *
    rw [List.length_append, List.length_cons, List.map_cons, List.sum_cons, h2]
    omega
theorem ptx_len {r : List PR} (h : 1 ≤ r.length) : (ptx r).length + 1 = rS r := by
  match r, h with
  | p :: l, _ =>
    have h1 := pt1_len p
    have h2 := ptT_len l
    show (pt1 p ++ ptT l).length + 1 = _
    unfold rS at *
    rw [List.length_append, List.map_cons, List.sum_cons, h2]
    omega
theorem dT_len : ∀ D : List (List PR), (∀ r ∈ D, 1 ≤ r.length) → (dT D).length = dS D
  | [], _ => rfl
  | r :: D, h => by
    have h1 := ptx_len (h r (List.mem_cons_self ..))
    have h2 := dT_len D (fun x hx => h x (List.mem_cons_of_mem _ hx))
    show ((44 :: ptx r) ++ dT D).length = _
    unfold dS at *
    rw [List.length_append, List.length_cons, List.map_cons, List.sum_cons, h2]
    omega
theorem dX_len {D : List (List PR)} (h : ∀ r ∈ D, 1 ≤ r.length) : (dX D).length = dS D - 1 := by
  cases D with
  | nil => rfl
  | cons r D =>
    have h1 := ptx_len (h r (List.mem_cons_self ..))
    have h2 := dT_len D (fun x hx => h x (List.mem_cons_of_mem _ hx))
    show (ptx r ++ dT D).length = _
    unfold dS at *
    rw [List.length_append, List.map_cons, List.sum_cons, h2]
    omega
end Pa
end Go.Proofs.YtihjlcclaoofhaaDoor
