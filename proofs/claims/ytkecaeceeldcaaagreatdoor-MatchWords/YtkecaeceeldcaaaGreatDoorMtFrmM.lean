import Derived.Test.YtkecaeceeldcaaaGreatDoorMtFldC
import Derived.Lib.Split
import Derived.Lib.SplitLaws
import Derived.Lib.SlTrimSet
namespace Go.Proofs.YtkecaeceeldcaaaGreatDoor
namespace MtFrmM
open TextMath (fold squeeze check lo col trimP trimS seqLen ld wi u bl sqA sqB)
set_option linter.unusedVariables false

theorem ld_high (b : Int) (h : (ld b).1 = 4 ∨ (ld b).1 = 3 ∨ (ld b).1 = 2) : 128 ≤ b := by
  revert h
  unfold ld
  repeat' split
  all_goals simp
  all_goals omega
theorem wi_high {c : UInt8} {lo hi : Int} (hl : 128 ≤ lo) (h : ¬ wi (u c) lo hi = false) : 128 ≤ c.toNat := by
  unfold wi u at h
  simp only [Bool.not_eq_false, Bool.and_eq_true, decide_eq_true_eq] at h
  omega
/-- The bytes of a sequence of two or more are all above those of ASCII. -/
theorem seq_high (l : List UInt8) (h : 2 ≤ seqLen l) (i : Nat) (hi : i < seqLen l) : 128 ≤ (l.getD i 0).toNat := by
  have hc := TextMath.ld_cases (u (l.getD 0 0))
  have hh := ld_high (u (l.getD 0 0))
  have hw := MtFldM.ld_low (u (l.getD 0 0))
  unfold seqLen at h hi
  simp only [] at h hi
  generalize ld (u (l.getD 0 0)) = q at *
  obtain ⟨m, lo, hi'⟩ := q
  simp only [] at *
  split at h
  · omega
  · rename_i e0
    rw [if_neg e0] at hi
    split at h
    · omega
    · rename_i e1
      rw [if_neg e1] at hi
      split at h
      · omega
      · rename_i e2
        rw [if_neg e2] at hi
        split at h
        · omega
        · rename_i e3
          rw [if_neg e3] at hi
          have hm : m = 4 ∨ m = 3 ∨ m = 2 := by omega
          have h0 : (128 : Int) ≤ ((l.getD 0 0).toNat : Int) := hh hm
          have h1 : 128 ≤ (l.getD 1 0).toNat := wi_high (hw hm) fun e => e3 ⟨hm, e⟩
          have h2 : (m = 4 ∨ m = 3) → 128 ≤ (l.getD 2 0).toNat := fun hm => wi_high (by decide) fun e => e2 ⟨hm, e⟩
          have h3 : m = 4 → 128 ≤ (l.getD 3 0).toNat := fun hm => wi_high (by decide) fun e => e1 ⟨hm, e⟩
          have : i = 0 ∨ i = 1 ∨ i = 2 ∨ i = 3 := by omega
          rcases this with rfl | rfl | rfl | rfl
          · omega
          · exact h1
          · exact h2 (by omega)
          · exact h3 (by omega)
theorem bl_high {c : UInt8} (h : 128 ≤ c.toNat) : bl c = false := by
  unfold bl
  rw [Bool.or_eq_false_iff, Bool.and_eq_false_iff]
  exact ⟨by simp; omega, Or.inr (by simp; omega)⟩
theorem sqB_nb : ∀ (a t : List UInt8) (p : Bool), a ≠ [] → (∀ c ∈ a, bl c = false) → sqB p (a ++ t) = (if p then [32] else []) ++ (a ++ sqB false t)
  | [c], t, p, _, h => by
    have hc := h c (by simp)
    show (if bl c then sqB true t else (if p then [32, c] else [c]) ++ sqB false t) = _
    rw [hc]
    cases p <;> rfl
  | c :: d :: a, t, p, _, h => by
    have hc := h c (by simp)
    have ih := sqB_nb (d :: a) t false (by simp) (fun x hx => h x (by simp at hx ⊢; exact Or.inr hx))
    show (if bl c then sqB true (d :: a ++ t) else (if p then [32, c] else [c]) ++ sqB false (d :: a ++ t)) = _
    rw [hc, ih]
    cases p <;> rfl
theorem sqA_nb (a t : List UInt8) (hn : a ≠ []) (h : ∀ c ∈ a, bl c = false) : sqA (a ++ t) = a ++ sqB false t := by
  cases a with
  | nil => exact absurd rfl hn
  | cons c a =>
    have hc := h c (by simp)
    show (if bl c then sqA (a ++ t) else c :: sqB false (a ++ t)) = _
    rw [hc]
    cases a with
    | nil => rfl
    | cons d a =>
      have := sqB_nb (d :: a) t false (by simp) (fun x hx => h x (by simp at hx ⊢; exact Or.inr hx))
      rw [this]
      rfl
theorem chk_app {a b : List UInt8} (ha : (check a).1 = true) (hb : (check b).1 = true) : (check (a ++ b)).1 = true := by
  rw [TextMath.check_app_good a b ha]
  exact hb
theorem chk_sq (l : List UInt8) : (check l).1 = true → (∀ p, (check (sqB p l)).1 = true) ∧ (check (sqA l)).1 = true := by
  refine TextMath.check_ind (M := fun l => (check l).1 = true → (∀ p, (check (sqB p l)).1 = true) ∧ (check (sqA l)).1 = true) ?_ ?_ ?_ l.length l (Nat.le_refl _)
  · exact fun _ => ⟨fun p => rfl, rfl⟩
  · intro l h0 h1 h
    rw [TextMath.check_bad l h0 h1] at h
    cases h
  · intro l h1 ih h
    have hle := TextMath.seqLen_le l
    have hk := TextMath.seqLen_take l (seqLen l) (Nat.le_refl _) (by omega)
    rw [TextMath.check_good l h1] at h
    obtain ⟨i1, i2⟩ := ih h
    have e : l.take (seqLen l) ++ l.drop (seqLen l) = l := List.take_append_drop _ _
    have hlen : (l.take (seqLen l)).length = seqLen l := by rw [List.length_take]; omega
    have hch : (check (l.take (seqLen l))).1 = true := by
      rw [TextMath.check_good _ (by rw [hk]; exact h1), hk]
      have : (l.take (seqLen l)).drop (seqLen l) = [] := List.drop_eq_nil_of_le (by omega)
      rw [this]
      rfl
    have h32 : (check [32]).1 = true := by decide
    have key : ∀ a t : List UInt8, a ≠ [] → (∀ c ∈ a, bl c = false) → (check a).1 = true → (∀ p, (check (sqB p t)).1 = true) → (∀ p, (check (sqB p (a ++ t))).1 = true) ∧ (check (sqA (a ++ t))).1 = true := by
      intro a t hn hb hc ht
      refine ⟨fun p => ?_, ?_⟩
      · rw [sqB_nb a t p hn hb]
        cases p
        · show (check (a ++ sqB false t)).1 = true
          exact chk_app hc (ht false)
        · exact chk_app h32 (chk_app hc (ht false))
      · rw [sqA_nb a t hn hb]
        exact chk_app hc (ht false)
    by_cases h2 : 2 ≤ seqLen l
    · have := key (l.take (seqLen l)) (l.drop (seqLen l)) (fun e => by rw [e] at hlen; simp at hlen; omega) (fun c hc => by
        obtain ⟨i, hi, rfl⟩ := List.getElem_of_mem hc
        have := seq_high l h2 i (by omega)
        rw [← TextMath.getD_take l (seqLen l) i (by omega)] at this
        have eg : (l.take (seqLen l)).getD i 0 = (l.take (seqLen l))[i] := by unfold List.getD; rw [List.getElem?_eq_getElem hi]; rfl
        rw [eg] at this
        exact bl_high this) hch i1
      rw [e] at this
      exact this
    · have hs : seqLen l = 1 := by omega
      rw [hs] at e hlen hch i1 i2
      generalize l.drop 1 = t at *
      obtain ⟨c, hc⟩ : ∃ c, l.take 1 = [c] := by
        match l.take 1, hlen with
        | [c], _ => exact ⟨c, rfl⟩
      rw [hc] at e hch
      by_cases hb : bl c = true
      · rw [← e]
        refine ⟨fun p => ?_, ?_⟩
        · show (check (if bl c then sqB true t else (if p then [32, c] else [c]) ++ sqB false t)).1 = true
          rw [hb]
          exact i1 true
        · show (check (if bl c then sqA t else c :: sqB false t)).1 = true
          rw [hb]
          exact i2
      · have hb' : bl c = false := by simpa using hb
        have := key [c] t (by simp) (fun x hx => by rw [List.mem_singleton.1 hx]; exact hb') hch i1
        rw [e] at this
        exact this
theorem mem_of_sqB : ∀ (l : List UInt8) (p : Bool) (c : UInt8), c ∈ sqB p l → c ∈ l ∨ c = 32
  | [], p, c, h => by cases h
  | b :: t, p, c, h => by
    have i1 := mem_of_sqB t true c
    have i2 := mem_of_sqB t false c
    have h' : c ∈ if bl b then sqB true t else (if p then [32, b] else [b]) ++ sqB false t := h
    cases hb : bl b with
    | true =>
      rw [hb] at h'
      rcases i1 h' with h | h
      · exact Or.inl (by simp [h])
      · exact Or.inr h
    | false =>
      rw [hb] at h'
      cases p <;> simp at h' <;> rcases h' with h | h
      · exact Or.inl (by simp [h])
      · rcases i2 h with h | h
        · exact Or.inl (by simp [h])
        · exact Or.inr h
      · exact Or.inr h
      · rcases h with h | h
        · exact Or.inl (by simp [h])
        · rcases i2 h with h | h
          · exact Or.inl (by simp [h])
          · exact Or.inr h
theorem mem_of_sqA : ∀ (l : List UInt8) (c : UInt8), c ∈ sqA l → c ∈ l ∨ c = 32
  | [], c, h => by cases h
  | b :: t, c, h => by
    have i1 := mem_of_sqA t c
    have i2 := mem_of_sqB t false c
    have h' : c ∈ if bl b then sqA t else b :: sqB false t := h
    cases hb : bl b with
    | true =>
      rw [hb] at h'
      rcases i1 h' with h | h
      · exact Or.inl (by simp [h])
      · exact Or.inr h
    | false =>
      rw [hb] at h'
      simp at h'
      rcases h' with h | h
      · exact Or.inl (by simp [h])
      · rcases i2 h with h | h
        · exact Or.inl (by simp [h])
        · exact Or.inr h
theorem squeeze_len (l : List UInt8) : (squeeze l).length ≤ l.length := by
  have h := TextMath.col_length l false
  have h1 : ∀ x : List UInt8, (trimP x).length ≤ x.length := fun x => by
    unfold trimP
    split
    · simp
    · exact Nat.le_refl _
  have h2 : ∀ x : List UInt8, (trimS x).length ≤ x.length := fun x => by
    unfold trimS
    split
    · simp
    · exact Nat.le_refl _
  unfold squeeze
  exact Nat.le_trans (h2 _) (Nat.le_trans (h1 _) h)
theorem squeeze_squeeze (l : List UInt8) : squeeze (squeeze l) = squeeze l := by
  rw [TextMath.squeeze_eq, TextMath.squeeze_eq, TextMath.sqA_sqA]
/-- A set's bytes alone. -/
theorem trim_all (cs : List UInt8) : ∀ l : List UInt8, (Lib.trimLeftS l cs).isEmpty = l.all fun c => cs.contains c
  | [] => rfl
  | c :: l => by
    have ih := trim_all cs l
    unfold Lib.trimLeftS at ih ⊢
    rw [List.all_cons]
    by_cases h : cs.contains c = true
    · rw [List.dropWhile_cons_of_pos (by simpa using h), ih, h]
      rfl
    · have h' : cs.contains c = false := by simpa using h
      rw [List.dropWhile_cons_of_neg (by simpa using h), h']
      rfl
theorem all_fin {Q : UInt8 → Prop} (h : ∀ n : Fin 256, Q (UInt8.ofNat n.val)) (c : UInt8) : Q c := by
  have := h ⟨c.toNat, c.toNat_lt⟩
  have e : UInt8.ofNat c.toNat = c := by simp
  rw [e] at this
  exact this
/-- A text cut at its points. -/
theorem idx_cut (c : UInt8) : ∀ (s : List UInt8) (i : Nat), Lib.index s [c] = i → s = s.take i ++ c :: s.drop (i + 1)
  | [], i, h => by
    exfalso
    revert h
    simp [Lib.index]
    try omega
  | b :: l, i, h => by
    by_cases hb : b = c
    · subst hb
      have : Lib.index (b :: l) [b] = (0 : Nat) := by simp [Lib.index, List.isPrefixOf]
      rw [this] at h
      obtain rfl : i = 0 := by omega
      rfl
    · have hp : [c].isPrefixOf (b :: l) = false := by simp [List.isPrefixOf]; exact fun e => hb e.symm
      rw [Lib.index, hp, if_neg (by simp)] at h
      split at h
      · omega
      · have hg := Lib.index_ge l [c]
        rename_i hm
        have hm' : Lib.index l [c] ≠ -1 := fun e => hm (by simp [e])
        obtain ⟨j, hj⟩ : ∃ j : Nat, Lib.index l [c] = j := ⟨(Lib.index l [c]).toNat, by omega⟩
        have ih := idx_cut c l j hj
        obtain rfl : i = j + 1 := by omega
        rw [List.take_succ_cons, List.drop_succ_cons, List.cons_append, ← ih]
/-- Parts of digits alone: digits and points alone. -/
theorem split_mem (Q : UInt8 → Prop) (hc : Q 46) : ∀ (k : Nat) (s : List UInt8), (∀ p ∈ Lib.splitK [46] 0 k s, ∀ c ∈ p, Q c) → ∀ c ∈ s, Q c
  | 0, s, h => fun c hm => h s (by simp [Lib.splitK]) c hm
  | k + 1, s, h => fun c hm => by
    unfold Lib.splitK at h
    by_cases hi : (Lib.index s [46] == -1) = true
    · rw [if_pos hi] at h
      exact h s (by simp) c hm
    · rw [if_neg hi] at h
      have hg := Lib.index_ge s [46]
      have hm' : Lib.index s [46] ≠ -1 := fun e => hi (by simp [e])
      obtain ⟨j, hj⟩ : ∃ j : Nat, Lib.index s [46] = j := ⟨(Lib.index s [46]).toNat, by omega⟩
      have e := idx_cut 46 s j hj
      have et : (Lib.index s [46]).toNat = j := by omega
      rw [et] at h
      rw [e] at hm
      rcases List.mem_append.1 hm with hm | hm
      · exact h (s.take (j + 0)) (List.mem_cons_self ..) c hm
      · rcases List.mem_cons.1 hm with rfl | hm
        · exact hc
        · exact split_mem Q hc k _ (fun p hp => h p (List.mem_cons_of_mem _ hp)) c hm
end MtFrmM
end Go.Proofs.YtkecaeceeldcaaaGreatDoor
