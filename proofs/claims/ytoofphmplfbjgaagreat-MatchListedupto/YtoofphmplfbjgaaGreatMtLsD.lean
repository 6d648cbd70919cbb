import Derived.Test.YtoofphmplfbjgaaGreatMtLsC
import Derived.Test.YtoofphmplfbjgaaGreatMtFldM
namespace Go.Proofs.YtoofphmplfbjgaaGreat
open Go.RowKit
open TextMath (fold squeeze check unhex wo normal seqLen)
set_option linter.unusedVariables false
set_option linter.unusedSimpArgs false
namespace Ml

/-! UTF-8 about a byte of ASCII. -/
theorem seq_ascii {l t : List UInt8} {c : UInt8} (hl : l ≠ []) (hc : c.toNat < 128) (h : seqLen l = 0) : seqLen (l ++ c :: t) = 0 := by
  by_cases hn : seqLen (l ++ c :: t) = 0
  · exact hn
  · exfalso
    have hp : 0 < l.length := List.length_pos_iff.2 hl
    have hle : seqLen (l ++ c :: t) ≤ l.length := by
      by_cases q : seqLen (l ++ c :: t) ≤ l.length
      · exact q
      · have := MtFrmM.seq_high (l ++ c :: t) (by omega) l.length (by omega)
        rw [List.getD, List.getElem?_append_right (Nat.le_refl _), Nat.sub_self] at this
        simp at this
        omega
    have := TextMath.seqLen_take (l ++ c :: t) l.length hle (by omega)
    rw [List.take_left] at this
    omega
theorem seq_one {t : List UInt8} {c : UInt8} (hc : c.toNat < 128) : seqLen (c :: t) = 1 := by
  have h : TextMath.ld (TextMath.u c) = (1, 0, 0) := by
    have h1 : TextMath.u c ≤ 127 := by unfold TextMath.u; omega
    unfold TextMath.ld
    rw [if_pos h1]
  unfold TextMath.seqLen
  simp only [List.getD_cons_zero, h]
  simp
  omega
theorem chk_cons {t : List UInt8} {c : UInt8} (hc : c.toNat < 128) : (check (c :: t)).1 = (check t).1 := by
  have h := seq_one (t := t) hc
  rw [TextMath.check_good _ (by omega), h]
  rfl
theorem chk_bad_ascii {t : List UInt8} {c : UInt8} (hc : c.toNat < 128) (l : List UInt8) : (check l).1 = false → (check (l ++ c :: t)).1 = false := by
  refine TextMath.check_ind (M := fun l => (check l).1 = false → (check (l ++ c :: t)).1 = false) ?_ ?_ ?_ l.length l (Nat.le_refl _)
  · intro h; cases h
  · intro l h0 h1 h
    rw [TextMath.check_bad _ (by simp) (seq_ascii (fun e => h0 (by rw [e]; rfl)) hc h1)]
  · intro l h1 ih h
    have hle := TextMath.seqLen_le l
    have hs := TextMath.seqLen_app l (c :: t) (by omega)
    rw [TextMath.check_good l h1] at h
    rw [TextMath.check_good _ (by rw [hs]; exact h1), hs, List.drop_append_of_le_length hle]
    exact ih h
theorem chk_ascii {t : List UInt8} {c : UInt8} (hc : c.toNat < 128) (l : List UInt8) : (check (l ++ c :: t)).1 = ((check l).1 && (check t).1) := by
  cases h : (check l).1 with
  | false => rw [chk_bad_ascii hc l h]; rfl
  | true =>
    rw [TextMath.check_app_good l (c :: t) h, Bool.true_and]
    exact chk_cons hc

/-! Lines as they are written, and as they stand in a normal form. -/
def en1 (h c : UInt8) : List UInt8 := if c = 36 then [92, 50, 52] else if c = 92 then [92, 53, h] else [c]
def enc (h : UInt8) (l : List UInt8) : List UInt8 := l.flatMap (en1 h)
theorem enc_cons (h c : UInt8) (l : List UInt8) : enc h (c :: l) = en1 h c ++ enc h l := by simp [enc]
theorem enc_len (h : UInt8) : ∀ l : List UInt8, (enc h l).length ≤ 3 * l.length
  | [] => Nat.le_refl _
  | c :: l => by
    have ih := enc_len h l
    rw [enc_cons, List.length_append, List.length_cons]
    have : (en1 h c).length ≤ 3 := by
      unfold en1
      repeat' split
      all_goals simp
    omega
theorem enc_no (h : UInt8) (hh : h ≠ 36) : ∀ l : List UInt8, (36 : UInt8) ∉ enc h l
  | [] => by simp [enc]
  | c :: l => by
    rw [enc_cons, List.mem_append]
    rintro (q | q)
    · unfold en1 at q
      split at q
      · simp at q
      · rename_i e
        split at q
        · simp at q; exact hh q.symm
        · simp at q; exact e q.symm
    · exact enc_no h hh l q
theorem chk_enc (h : UInt8) (hh : h.toNat < 128) : ∀ l a : List UInt8, (check (a ++ enc h l)).1 = (check (a ++ l)).1
  | [], a => rfl
  | c :: l, a => by
    have ih0 := chk_enc h hh l []
    simp only [List.nil_append] at ih0
    rw [enc_cons]
    unfold en1
    split
    · rename_i e
      subst e
      show (check (a ++ 92 :: 50 :: 52 :: enc h l)).1 = _
      rw [chk_ascii (by decide), chk_cons (by decide), chk_cons (by decide), ih0, chk_ascii (by decide)]
    · split
      · rename_i e
        subst e
        show (check (a ++ 92 :: 53 :: h :: enc h l)).1 = _
        rw [chk_ascii (by decide), chk_cons (by decide), chk_cons hh, ih0, chk_ascii (by decide)]
      · have ih := chk_enc h hh l (a ++ [c])
        simp only [List.append_assoc, List.singleton_append] at ih ⊢
        exact ih
theorem cut_cons_ne {c : UInt8} (l : List UInt8) (h : c ≠ 92) : Lib.cut (c :: l) [92] = (c :: (Lib.cut l [92]).1, (Lib.cut l [92]).2.1, (Lib.cut l [92]).2.2) := by
  have hp : [92].isPrefixOf (c :: l) = false := by simp [List.isPrefixOf]; exact fun e => h e.symm
  have hge := Lib.index_ge l [92]
  by_cases hm : Lib.index l [92] = -1
  · have hi : Lib.index (c :: l) [92] = -1 := by rw [Lib.index, hp, if_neg (by simp), if_pos (by rw [hm]; rfl)]
    unfold Lib.cut
    rw [hi, hm]
    rfl
  · obtain ⟨i, hi⟩ : ∃ i : Nat, Lib.index l [92] = i := ⟨(Lib.index l [92]).toNat, by omega⟩
    have hi2 : Lib.index (c :: l) [92] = ((i + 1 : Nat) : Int) := by
      rw [Lib.index, hp, if_neg (by simp), if_neg (fun e => hm (beq_iff_eq.1 e)), hi]
      rfl
    unfold Lib.cut
    rw [hi, hi2]
    rw [if_pos (by omega), if_pos (by omega)]
    rfl
theorem cut_cons_eq (l : List UInt8) : Lib.cut (92 :: l) [92] = ([], l, true) := by
  have hi : Lib.index (92 :: l) [92] = (0 : Nat) := by simp [Lib.index, List.isPrefixOf]
  unfold Lib.cut
  rw [hi]
  rfl
theorem cut_nil : Lib.cut [] [92] = ([], [], false) := by decide
theorem unE_cons {c : UInt8} (sg : UInt8) (n : Nat) (l : List UInt8) (h : c ≠ 92) : unE sg (n + 1) (c :: l) = (unE sg (n + 1) l).map (c :: ·) := by
  rw [unE, unE, cut_cons_ne l h]
  generalize Lib.cut l [92] = x
  obtain ⟨f, b, q⟩ := x
  cases q with
  | false => rfl
  | true =>
    match b with
    | [] => rfl
    | [_] => rfl
    | a :: d :: r =>
      show unB sg (unE sg n) (c :: f, a :: d :: r, true) = (unB sg (unE sg n) (f, a :: d :: r, true)).map (c :: ·)
      cases ht : two sg a d with
      | none =>
        rw [unB_no (fun a' c' t' e => by injection e with e1 e2; injection e2 with e2 e3; subst e1 e2; exact ht), unB_no (fun a' c' t' e => by injection e with e1 e2; injection e2 with e2 e3; subst e1 e2; exact ht)]
        rfl
      | some y =>
        rw [unB_yes ht, unB_yes ht]
        cases unE sg n r <;> rfl
theorem unE_enc (h : UInt8) (hh : two 36 53 h = some 92) : ∀ (l : List UInt8) (n : Nat), l.length < n → unE 36 n (enc h l) = some l
  | [], n, hn => by
    obtain ⟨n, rfl⟩ : ∃ k, n = k + 1 := ⟨n - 1, by simp at hn; omega⟩
    show unE 36 (n + 1) [] = some []
    rw [unE, cut_nil]
    rfl
  | c :: l, n, hn => by
    rw [List.length_cons] at hn
    obtain ⟨n, rfl⟩ : ∃ k, n = k + 1 := ⟨n - 1, by omega⟩
    rw [enc_cons]
    unfold en1
    split
    · rename_i e
      subst e
      show unE 36 (n + 1) (92 :: 50 :: 52 :: enc h l) = _
      rw [unE, cut_cons_eq, unB_yes (show two 36 50 52 = some 36 by decide), unE_enc h hh l n (by omega)]
      rfl
    · split
      · rename_i e
        subst e
        show unE 36 (n + 1) (92 :: 53 :: h :: enc h l) = _
        rw [unE, cut_cons_eq, unB_yes hh, unE_enc h hh l n (by omega)]
        rfl
      · rename_i e
        show unE 36 (n + 1) (c :: enc h l) = _
        rw [unE_cons 36 n _ e, unE_enc h hh l (n + 1) (by omega)]
        rfl
theorem repK_flat (c : UInt8) (new : List UInt8) : ∀ s : List UInt8, Lib.replaceK [c] new (Lib.count s [c]) s = s.flatMap (fun b => if b = c then new else [b])
  | [] => by rw [Lib.count_one]; rfl
  | b :: l => by
    have ih := repK_flat c new l
    by_cases h : b = c
    · subst h
      have hi : Lib.index (b :: l) [b] = (0 : Nat) := by simp [Lib.index, List.isPrefixOf]
      rw [Lib.count_cons_eq, Nat.add_comm, Lib.replaceK_hit [b] new _ _ 0 hi, List.flatMap_cons, if_pos rfl, ← ih]
      simp
    · rw [Lib.count_cons_ne b c l h, List.flatMap_cons, if_neg h]
      cases hk : Lib.count l [c] with
      | zero =>
        rw [hk] at ih
        rw [← ih]
        rfl
      | succ k =>
        rw [hk] at ih
        obtain ⟨i, hi⟩ := Lib.index_of_count (s := l) (old := [c]) (by omega)
        have hi2 : Lib.index (b :: l) [c] = ((i + 1 : Nat) : Int) := by
          have hp : [c].isPrefixOf (b :: l) = false := by simp [List.isPrefixOf]; exact fun e => h e.symm
          have hm : ¬ (Lib.index l [c] == -1) = true := fun e => by have := beq_iff_eq.1 e; omega
          rw [Lib.index, hp, if_neg (by simp), if_neg hm, hi]
          rfl
        rw [Lib.replaceK_hit [c] new k l i hi] at ih
        rw [Lib.replaceK_hit [c] new k (b :: l) (i + 1) hi2, ← ih]
        simp
theorem rep_flat (c : UInt8) (new s : List UInt8) (hne : ([c] == new) = false) : Lib.replaceAll s [c] new = s.flatMap (fun b => if b = c then new else [b]) := by
  unfold Lib.replaceAll Lib.replace Lib.replaceNum
  rw [if_neg (by rw [hne]; simp), if_pos (by left; decide)]
  exact repK_flat c new s
theorem escL_enc (l : List UInt8) : escL l = enc 99 l := by
  unfold escL enc
  rw [rep_flat 92 _ l (by decide), rep_flat 36 _ _ (by decide), List.flatMap_assoc]
  congr 1
  funext c
  unfold en1
  by_cases h1 : c = 92
  · subst h1; rfl
  · rw [if_neg h1]
    by_cases h2 : c = 36
    · subst h2; rfl
    · simp [h1, h2]
theorem escL_inj {a b : List UInt8} (h : escL a = escL b) : a = b := by
  rw [escL_enc, escL_enc] at h
  have h1 := unE_enc 99 (by decide) a (a.length + b.length + 1) (by omega)
  have h2 := unE_enc 99 (by decide) b (a.length + b.length + 1) (by omega)
  rw [h, h2] at h1
  injection h1 with h1
  exact h1.symm
theorem cut_at {x y u v : List UInt8} (hx : (36 : UInt8) ∉ x) (hu : (36 : UInt8) ∉ u) (h : x ++ 36 :: y = u ++ 36 :: v) : x = u ∧ y = v := by
  induction x generalizing u with
  | nil =>
    cases u with
    | nil => simp at h; exact ⟨rfl, h⟩
    | cons d u =>
      simp at h
      exact absurd (by rw [← h.1]; simp) hu
  | cons c x ih =>
    cases u with
    | nil =>
      simp at h
      exact absurd (by rw [h.1]; simp) hx
    | cons d u =>
      simp at h
      obtain ⟨i1, i2⟩ := ih (fun q => hx (List.mem_cons_of_mem _ q)) (fun q => hu (List.mem_cons_of_mem _ q)) h.2
      exact ⟨by rw [h.1, i1], i2⟩

/-! The lines of a text that is made of one or two. -/
theorem idx_no {x : List UInt8} {c : UInt8} (h : c ∉ x) : Lib.index x [c] = -1 := by
  induction x with
  | nil => simp [Lib.index, List.isPrefixOf]
  | cons d x ih =>
    have hp : [c].isPrefixOf (d :: x) = false := by simp [List.isPrefixOf]; exact fun e => h (by rw [e]; simp)
    rw [Lib.index, hp, if_neg (by simp), ih (fun q => h (List.mem_cons_of_mem _ q))]
    rfl
theorem idx_at {x : List UInt8} {c : UInt8} (y : List UInt8) (h : c ∉ x) : Lib.index (x ++ c :: y) [c] = (x.length : Int) := by
  induction x with
  | nil => simp [Lib.index, List.isPrefixOf]
  | cons d x ih =>
    have hp : [c].isPrefixOf (d :: (x ++ c :: y)) = false := by simp [List.isPrefixOf]; exact fun e => h (by rw [e]; simp)
    have ih := ih (fun q => h (List.mem_cons_of_mem _ q))
    have hm : ¬ (Lib.index (x ++ c :: y) [c] == -1) = true := fun e => by have := beq_iff_eq.1 e; omega
    rw [List.cons_append, Lib.index, hp, if_neg (by simp), if_neg hm, ih]
    simp
theorem lsP_one {x : List UInt8} (h : (36 : UInt8) ∉ x) : lsP (S x) = [S x] := by
  unfold lsP
  refine Lib.splitB_miss _ _ _ _ ?_
  show Lib.index (S x).data.toList [36] = -1
  rw [S_l]
  exact idx_no h
theorem lsP_two {x y : List UInt8} (h : (36 : UInt8) ∉ x) (h' : (36 : UInt8) ∉ y) : lsP (S (x ++ 36 :: y)) = [S x, S y] := by
  have hc : Lib.countB (S (x ++ 36 :: y)) dlS = 1 := by
    show Lib.count (S (x ++ 36 :: y)).data.toList [36] = 1
    rw [S_l, Lib.count_one, List.count_append, List.count_cons_self, List.count_eq_zero_of_not_mem h, List.count_eq_zero_of_not_mem h']
  have hi : Lib.indexB (S (x ++ 36 :: y)) dlS = (x.length : Nat) := by
    show Lib.index (S (x ++ 36 :: y)).data.toList [36] = _
    rw [S_l]
    exact idx_at y h
  unfold lsP
  rw [hc, Lib.splitB_hit _ _ _ _ _ hi, Lib.splitB_zero]
  have e1 : (S (x ++ 36 :: y)).extract 0 (x.length + 0) = S x := S_eq _ _ (by rw [take_l, S_l]; simp)
  have e2 : (S (x ++ 36 :: y)).extract (x.length + dlS.size) (S (x ++ 36 :: y)).size = S y := S_eq _ _ (by
    rw [drop_l, S_l]
    show List.drop (x.length + 1) (x ++ 36 :: y) = y
    simp [List.drop_append])
  rw [e1, e2]
end Ml
end Go.Proofs.YtoofphmplfbjgaaGreat
