import Derived.Test.YteiikipldejeeaaDoorAtParse
namespace Go.Proofs.YteiikipldejeeaaDoor
open TextMath (fold lo)
set_option linter.unusedVariables false

/-- Options, each behind its mark. -/
def semis (zs : List (List UInt8)) : List UInt8 := zs.flatMap fun z => 59 :: z
theorem semis_snoc (zs : List (List UInt8)) (x : List UInt8) : semis (zs ++ [x]) = semis zs ++ 59 :: x := by simp [semis]
theorem semis_cons (z : List UInt8) (zs : List (List UInt8)) : semis (z :: zs) = 59 :: (z ++ semis zs) := by simp [semis]
theorem semis_len (zs : List (List UInt8)) : zs.length ≤ (semis zs).length := by
  induction zs with
  | nil => simp
  | cons z zs ih => rw [semis_cons]; simp; omega
theorem fold_app (a b : List UInt8) : fold (a ++ b) = fold a ++ fold b := by simp [fold]
theorem fold_semi (b : List UInt8) : fold (59 :: b) = 59 :: fold b := by
  have : lo 59 = 59 := by decide
  simp [fold, this]
theorem fold_semis (zs : List (List UInt8)) : fold (semis zs) = semis (zs.map fold) := by
  induction zs with
  | nil => rfl
  | cons z zs ih => rw [semis_cons, fold_semi, fold_app, ih, List.map_cons, semis_cons]

theorem runE_semi (p : UInt8 → Bool) (hp : p 59 = false) (l r : List UInt8) (e : Nat) (he : e ≤ l.length) : runE p (l ++ 59 :: r) e = runE p l e := by
  unfold runE
  rw [List.drop_append_of_le_length he]
  congr 1
  generalize l.drop e = k
  induction k with
  | nil => simp [hp]
  | cons a k ih =>
    rw [List.cons_append, List.takeWhile_cons, List.takeWhile_cons]
    split
    · simp [ih]
    · rfl
theorem getD_semi (l r : List UInt8) (e : Nat) (he : e < l.length) : (l ++ 59 :: r).getD e 0 = l.getD e 0 := by
  simp [List.getD, List.getElem?_append_left he]
theorem getD_at (l r : List UInt8) : (l ++ 59 :: r).getD l.length 0 = 59 := by simp [List.getD]
theorem getD_over (l : List UInt8) : l.getD l.length 0 = 0 := by simp [List.getD]
theorem numE_semi (l r : List UInt8) (e : Nat) (he : e ≤ l.length) : numE (l ++ 59 :: r) e = numE l e := by
  unfold numE
  rw [runE_semi isD (by decide) l r e he]
  by_cases h : e < l.length
  · rw [getD_semi l r e h]
    have : e < (l ++ 59 :: r).length := by simp; omega
    simp only [h, this, and_true]
  · have : e = l.length := by omega
    subst this
    rw [getD_at, getD_over]
    simp
theorem idE_semi (l r : List UInt8) : ∀ n n' m e, e ≤ l.length → l.length - e < n → l.length - e < n' → idE (l ++ 59 :: r) n' m e = idE l n m e
  | 0, _, _, _, _, h, _ => by omega
  | _ + 1, 0, _, _, _, _, h => by omega
  | n + 1, n' + 1, m, e, he, h1, h2 => by
    unfold idE
    rw [numE_semi l r e he]
    have hle := numE_le l e he
    by_cases h3 : numE l e = e
    · rw [if_pos h3, if_pos h3]
    · rw [if_neg h3, if_neg h3]
      by_cases h4 : numE l e = l.length
      · rw [if_pos (Or.inr (by rw [h4, getD_at]; decide)), if_pos (Or.inl h4)]
      · have h5 : numE l e < l.length := by omega
        rw [getD_semi l r _ h5]
        have h6 : ¬ numE l e = (l ++ 59 :: r).length := by simp; omega
        by_cases h7 : (l.getD (numE l e) 0).toNat = 46
        · rw [if_neg (by simp only [h6, h7]; simp), if_neg (by simp only [h4, h7]; simp)]
          exact idE_semi l r n n' (m + 1) (numE l e + 1) (by omega) (by omega) (by omega)
        · rw [if_pos (Or.inr h7), if_pos (Or.inr h7)]
theorem typE_semi (l r : List UInt8) : typE (l ++ 59 :: r) = typE l := by
  unfold typE
  by_cases hl : l = []
  · subst hl
    have h1 : ¬ (¬ ([] ++ 59 :: r : List UInt8) = [] ∧ isL (([] ++ 59 :: r).getD 0 0) = true) := by
      intro h
      have : isL 59 = false := by decide
      have h2 := h.2
      simp [List.getD, this] at h2
    rw [if_neg h1, if_neg (by simp)]
    exact idE_semi [] r _ _ 1 0 (by simp) (by simp) (by simp)
  · have hz : 0 < l.length := List.length_pos_iff.2 hl
    rw [getD_semi l r 0 hz]
    by_cases h : isL (l.getD 0 0) = true
    · rw [if_pos ⟨by simp, h⟩, if_pos ⟨hl, h⟩, runE_semi isK (by decide) l r 1 (by omega)]
    · rw [if_neg (fun q => h q.2), if_neg (fun q => h q.2)]
      exact idE_semi l r _ _ 1 0 (by omega) (by omega) (by simp; omega)
theorem typE_semis (l : List UInt8) (zs : List (List UInt8)) : typE (l ++ semis zs) = typE l := by
  cases zs with
  | nil => simp [semis]
  | cons z zs => rw [semis_cons]; exact typE_semi _ _

theorem while_semis (z : List UInt8) (zs : List (List UInt8)) (hz : ∀ b ∈ z, isK b = true) : (z ++ semis zs).takeWhile isK = z := by
  induction z with
  | nil =>
    cases zs with
    | nil => simp [semis]
    | cons y ys =>
      have : isK 59 = false := by decide
      rw [semis_cons]
      simp [this]
  | cons a z ih =>
    rw [List.cons_append, List.takeWhile_cons, if_pos (hz a (by simp)), ih (fun b hb => hz b (by simp [hb]))]
theorem dscE_run (s : ByteArray) : ∀ (zs : List (List UInt8)) (n e : Nat) (acc : List (List UInt8)), s.data.toList.drop e = semis zs → e ≤ s.size → (∀ z ∈ zs, z ≠ [] ∧ ∀ b ∈ z, isK b = true) → zs.length < n → dscE s n e acc = (acc ++ zs, s.size, true)
  | _, 0, _, _, _, _, _, h => by omega
  | [], n + 1, e, acc, hd, he, _, _ => by
    have h1 : s.data.toList.length ≤ e := List.drop_eq_nil_iff.1 hd
    rw [size_l] at h1
    unfold dscE
    rw [if_neg (by omega), List.append_nil, show e = s.size by omega]
  | z :: zs, n + 1, e, acc, hd, he, hz, hn => by
    rw [semis_cons] at hd
    have hlt : e < s.data.toList.length := by
      rcases Nat.lt_or_ge e s.data.toList.length with h | h
      · exact h
      · rw [List.drop_of_length_le h] at hd; cases hd
    have hlt' : e < s.size := by rw [← size_l]; exact hlt
    rw [List.drop_eq_getElem_cons hlt] at hd
    injection hd with h59 hd
    have hg : (s.data.toList.getD e 0).toNat = 59 := by
      rw [List.getD, List.getElem?_eq_getElem hlt, Option.getD_some, h59]
      decide
    have hk := hz z (by simp)
    have hrun : runE isK s.data.toList (e + 1) = e + 1 + z.length := by
      unfold runE
      rw [hd, while_semis z zs hk.2]
    have hzl : 0 < z.length := List.length_pos_iff.2 hk.1
    have hlen : e + 1 + z.length ≤ s.size := by
      have := congrArg List.length hd
      rw [List.length_drop, size_l] at this
      simp at this
      omega
    unfold dscE
    rw [if_pos hlt', if_pos hg, hrun, if_neg (by omega)]
    have hex : (s.extract (e + 1) (e + 1 + z.length)).data.toList = z := by
      rw [ByteArray.data_extract, Array.toList_extract, List.extract_eq_take_drop, hd]
      rw [show e + 1 + z.length - (e + 1) = z.length by omega]
      simp
    rw [hex]
    have ih := dscE_run s zs n (e + 1 + z.length) (acc ++ [z]) (by rw [← List.drop_drop, hd]; simp) hlen (fun y hy => hz y (by simp [hy])) (by simp at hn; omega)
    rw [ih]
    simp
theorem desc_semis (l : List UInt8) (zs : List (List UInt8)) (hT : typE l = (l.length, true)) (hz : ∀ z ∈ zs, z ≠ [] ∧ ∀ b ∈ z, isK b = true) :
    desc (S (l ++ semis zs)) = (zs, (S (l ++ semis zs)).size, true) ∧ typD (S (l ++ semis zs)) = S l := by
  have e1 : typE (S (l ++ semis zs)).data.toList = (l.length, true) := by rw [S_l, typE_semis, hT]
  constructor
  · unfold desc
    rw [e1, if_pos rfl]
    have h := dscE_run (S (l ++ semis zs)) zs ((S (l ++ semis zs)).size + 1) l.length [] (by rw [S_l]; simp) (by rw [S_size]; simp) hz (by
      rw [S_size]
      have := semis_len zs
      simp
      omega)
    rw [h]
    simp
  · unfold typD
    rw [e1]
    refine (S_of _).symm.trans ?_
    congr 1
    rw [ByteArray.data_extract, Array.toList_extract, List.extract_eq_take_drop, S_l]
    simp
theorem desc_bad (l : List UInt8) (z : List UInt8) (zs : List (List UInt8)) (h59 : ∀ b ∈ l, b ≠ 59) (hb : ¬ ((typE l).2 = true ∧ ¬ (typE l).1 < l.length)) : (desc (S (l ++ semis (z :: zs)))).2.2 = false := by
  unfold desc
  rw [S_l, typE_semis]
  by_cases h : (typE l).2 = true
  · rw [if_pos h]
    have hlt : (typE l).1 < l.length := Classical.byContradiction fun q => hb ⟨h, q⟩
    unfold dscE
    rw [if_pos (by rw [S_size]; simp; omega), S_l, semis_cons, getD_semi l _ _ hlt, if_neg]
    intro e
    have hm : l.getD (typE l).1 0 ∈ l := by
      rw [List.getD, List.getElem?_eq_getElem hlt, Option.getD_some]
      exact List.getElem_mem hlt
    exact h59 _ hm (UInt8.toNat_inj.1 (by rw [e]; rfl))
  · rw [if_neg h]
end Go.Proofs.YteiikipldejeeaaDoor
