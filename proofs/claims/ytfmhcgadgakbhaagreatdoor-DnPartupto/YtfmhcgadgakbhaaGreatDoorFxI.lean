import Derived.Test.YtfmhcgadgakbhaaGreatDoorFxH
namespace Go.Proofs.YtfmhcgadgakbhaaGreatDoor
open TextMath (fold lo)
set_option linter.unusedVariables false

/-- Options, each behind its mark. -/
def semis (zs : List (List UInt8)) : List UInt8 := zs.flatMap fun z => 59 :: z
theorem semis_snoc (zs : List (List UInt8)) (x : List UInt8) : semis (zs ++ [x]) = semis zs ++ 59 :: x := by simp [semis]
theorem semis_cons (z : List UInt8) (zs : List (List UInt8)) : semis (z :: zs) = 59 :: (z ++ semis zs) := by simp [semis]
theorem semis_len (zs : List (List UInt8)) : zs.length ≤ (semis zs).length := by
  induction zs with
  | nil => simp
  | cons z zs ih => rw [semis_cons]; simp; omega
theorem fold_app (a b : List UInt8) : fold (a ++ b) = fold a ++ fold b := by simp [fold]
theorem fold_semi (b : List UInt8) : fold (59 :: b) = 59 :: fold b := by
  have : lo 59 = 59 := by decide
  simp [fold, this]
theorem fold_semis (zs : List (List UInt8)) : fold (semis zs) = semis (zs.map fold) := by
  induction zs with
  | nil => rfl
  | cons z zs ih => rw [semis_cons, fold_semi, fold_app, ih, List.map_cons, semis_cons]

theorem runE_semi (p : UInt8 → Bool) (hp : p 59 = false) (l r : List UInt8) (e : Nat) (he : e ≤ l.length) : runE p (l ++ 59 :: r) e = runE p l e := by
  unfold runE
  rw [List.drop_append_of_le_length he]
  congr 1
  generalize l.drop e = k
  induction k with
  | nil => simp [hp]
  | cons a k ih =>
    rw [List.cons_append, List.takeWhile_cons, List.takeWhile_cons]
    split
    · simp [ih]
    · rfl
theorem getD_semi (l r : List UInt8) (e : Nat) (he : e < l.length) : (l ++ 59 :: r).getD e 0 = l.getD e 0 := by
  simp [List.getD, List.getElem?_append_left he]
theorem getD_at (l r : List UInt8) : (l ++ 59 :: r).getD l.length 0 = 59 := by simp [List.getD]
theorem getD_over (l : List UInt8) : l.getD l.length 0 = 0 := by simp [List.getD]
theorem numE_semi (l r : List UInt8) (e : Nat) (he : e ≤ l.length) : numE (l ++ 59 :: r) e = numE l e := by
  unfold numE
  rw [runE_semi isD (by decide) l r e he]
  by_cases h : e < l.length
  · rw [getD_semi l r e h]
    have : e < (l ++ 59 :: r).length := by simp; omega
    simp only [h, this, and_true]
  · have : e = l.length := by omega
    subst this
    rw [getD_at, getD_over]
    simp
theorem idE_semi (l r : List UInt8) : ∀ n n' m e, e ≤ l.length → l.length - e < n → l.length - e < n' → idE (l ++ 59 :: r) n' m e = idE l n m e
  | 0, _, _, _, _, h, _ => by omega
  | _ + 1, 0, _, _, _, _, h => by omega
  | n + 1, n' + 1, m, e, he, h1, h2 => by
    unfold idE
    rw [numE_semi l r e he]
    have hle := numE_le l e he
    by_cases h3 : numE l e = e
    · rw [if_pos h3, if_pos h3]
    · rw [if_neg h3, if_neg h3]
      by_cases h4 : numE l e = l.length
      · rw [if_pos (Or.inr (by rw [h4, getD_at]; decide)), if_pos (Or.inl h4)]
      · have h5 : numE l e < l.length := by omega
        rw [getD_semi l r _ h5]
        have h6 : ¬ numE l e = (l ++ 59 :: r).length := by simp; omega
        by_cases h7 : (l.getD (numE l e) 0).toNat = 46
        · rw [if_neg (by simp only [h6, h7]; simp), if_neg (by simp only [h4, h7]; simp)]
          exact idE_semi l r n n' (m + 1) (numE l e + 1) (by omega) (by omega) (by omega)
        · rw [if_pos (Or.inr h7), if_pos (Or.inr h7)]
theorem typE_semi (l r : List UInt8) : typE (l ++ 59 :: r) = typE l := by
  unfold typE
  by_cases hl : l = []
  · subst hl
    have h1 : ¬ (¬ ([] ++ 59 :: r : List UInt8) = [] ∧ isL (([] ++ 59 :: r).getD 0 0) = true) := by
      intro h
      have : isL 59 = false := by decide
      have h2 := h.2
      simp [List.getD, this] at h2
    rw [if_neg h1, if_neg (by simp)]
    exact idE_semi [] r _ _ 1 0 (by simp) (by simp) (by simp)
  · have hz : 0 < l.length := List.length_pos_iff.2 hl
    rw [getD_semi l r 0 hz]
    by_cases h : isL (l.getD 0 0) = true
    · rw [if_pos ⟨by simp, h⟩, if_pos ⟨hl, h⟩, runE_semi isK (by decide) l r 1 (by omega)]
    · rw [if_neg (fun q => h q.2), if_neg (fun q => h q.2)]
      exact idE_semi l r _ _ 1 0 (by omega) (by omega) (by simp; omega)
theorem typE_semis (l : List UInt8) (zs : List (List UInt8)) : typE (l ++ semis zs) = typE l := by
  cases zs with
  | nil => simp [semis]
  | cons z zs => rw [semis_cons]; exact typE_semi _ _

theorem while_semis (z : List UInt8) (zs : List (List UInt8)) (hz : ∀ b ∈ z, isK b = true) : (z ++ semis zs).takeWhile isK = z := by
  induction z with
  | nil =>
    cases zs with
    | nil => simp [semis]
    | cons y ys =>
      have : isK 59 = false := by decide
      rw [semis_cons]
      simp [this]
  | cons a z ih =>
    rw [List.cons_append, List.takeWhile_cons, if_pos (hz a (by simp)), ih (fun b hb => hz b (by simp [hb]))]
theorem dscE_run (s : ByteArray) : ∀ (zs : List (List UInt8)) (n e : Nat) (acc : List (List UInt8)), s.data.toList.drop e = semis zs → e ≤ s.size → (∀ z ∈ zs, z ≠ [] ∧ ∀ b ∈ z, isK b = true) → zs.length < n → dscE s n e acc = (acc ++ zs, s.size, true)
  | _, 0, _, _, _, _, _, h => by omega
  | [], n + 1, e, acc, hd, he, _, _ => by
    have h1 : s.data.toList.length ≤ e := List.drop_eq_nil_iff.1 hd
    rw [size_l] at h1
    unfold dscE
    rw [if_neg (by omega), List.append_nil, show e = s.size by omega]
  | z :: zs, n + 1, e, acc, hd, he, hz, hn => by
    rw [semis_cons] at hd
    have hlt : e < s.data.toList.length := by
      rcases Nat.lt_or_ge e s.data.toList.length with h | h
      · exact h
      · rw [List.drop_of_length_le h] at hd; cases hd
    have hlt' : e < s.size := by rw [← size_l]; exact hlt
    rw [List.drop_eq_getElem_cons hlt] at hd
    injection hd with h59 hd
    have hg : (s.data.toList.getD e 0).toNat = 59 := by
      rw [List.getD, List.getElem?_eq_getElem hlt, Option.getD_some, h59]
      decide
    have hk := hz z (by simp)
    have hrun : runE isK s.data.toList (e + 1) = e + 1 + z.length := by
      unfold runE
      rw [hd, while_semis z zs hk.2]
    have hzl : 0 < z.length := List.length_pos_iff.2 hk.1
    have hlen : e + 1 + z.length ≤ s.size := by
      have := congrArg List.length hd
      rw [List.length_drop, size_l] at this
      simp at this
      omega
    unfold dscE
    rw [if_pos hlt', if_pos hg, hrun, if_neg (by omega)]
    have hex : (s.extract (e + 1) (e + 1 + z.length)).data.toList = z := by
      rw [ByteArray.data_extract, Array.toList_extract, List.extract_eq_take_drop, hd]
      rw [show e + 1 + z.length - (e + 1) = z.length by omega]
      simp
    rw [hex]
    have ih := dscE_run s zs n (e + 1 + z.length) (acc ++ [z]) (by rw [← List.drop_drop, hd]; simp) hlen (fun y hy => hz y (by simp [hy])) (by simp at hn; omega)
    rw [ih]
    simp
theorem desc_semis (l : List UInt8) (zs : List (List UInt8)) (hT : typE l = (l.length, true)) (hz : ∀ z ∈ zs, z ≠ [] ∧ ∀ b ∈ z, isK b = true) :
    desc (S (l ++ semis zs)) = (zs, (S (l ++ semis zs)).size, true) ∧ typD (S (l ++ semis zs)) = S l := by
  have e1 : typE (S (l ++ semis zs)).data.toList = (l.length, true) := by rw [S_l, typE_semis, hT]
  constructor
  · unfold desc
    rw [e1, if_pos rfl]
    have h := dscE_run (S (l ++ semis zs)) zs ((S (l ++ semis zs)).size + 1) l.length [] (by rw [S_l]; simp) (by rw [S_size]; simp) hz (by
      rw [S_size]
      have := semis_len zs
      simp
      omega)
    rw [h]
    simp
  · unfold typD
    rw [e1]
    refine (S_of _).symm.trans ?_
    congr 1
    rw [ByteArray.data_extract, Array.toList_extract, List.extract_eq_take_drop, S_l]
    simp
theorem desc_bad (l : List UInt8) (z : List UInt8) (zs : List (List UInt8)) (h59 : ∀ b ∈ l, b ≠ 59) (hb : ¬ ((typE l).2 = true ∧ ¬ (typE l).1 < l.length)) : (desc (S (l ++ semis (z :: zs)))).2.2 = false := by
  unfold desc
  rw [S_l, typE_semis]
  by_cases h : (typE l).2 = true
  · rw [if_pos h]
    have hlt : (typE l).1 < l.length := Classical.byContradiction fun q => hb ⟨h, q⟩
    unfold dscE
    rw [if_pos (by rw [S_size]; simp; omega), S_l, semis_cons, getD_semi l _ _ hlt, if_neg]
    intro e
    have hm : l.getD (typE l).1 0 ∈ l := by
      rw [List.getD, List.getElem?_eq_getElem hlt, Option.getD_some]
      exact List.getElem_mem hlt
    exact h59 _ hm (UInt8.toNat_inj.1 (by rw [e]; rfl))
  · rw [if_neg h]
end Go.Proofs.YtfmhcgadgakbhaaGreatDoor

namespace Go.Proofs.YtfmhcgadgakbhaaGreatDoor
open Go.RowKit
open TextMath (fold lo)
set_option linter.unusedVariables false

/-- A row's name and what stands above it. -/
def lr (r : Nat) : List (List UInt8) := nmN r :: chn 3 (upN r)
def anc (r : Nat) : Nat → Nat
  | 0 => r
  | i + 1 => upN (anc r i)
theorem row_facts : ∀ r : Fin 62, fold (nmN r.val) = nmN r.val ∧ typE (nmN r.val) = ((nmN r.val).length, true) ∧ hit (S (nmN r.val)) r = true := by decide +kernel
theorem chain_facts : ∀ r : Fin 62, ∀ i : Fin 4, i.val < (lr r.val).length → anc r.val i.val < 62 ∧ (lr r.val).getD i.val [] = nmN (anc r.val i.val) ∧ lr (anc r.val i.val) = (lr r.val).drop i.val ∧ SYN.getD (anc r.val i.val) 0 = SYN.getD r.val 0 := by decide +kernel
theorem order_facts : ∀ r : Fin 62, ∀ i j : Fin 4, i.val < (lr r.val).length → j.val < (lr r.val).length → decide ((lr r.val).getD j.val [] ∈ (lr r.val).drop i.val) = decide (i.val ≤ j.val) := by decide +kernel
theorem lr_len : ∀ r : Fin 62, (lr r.val).length ≤ 3 := by decide +kernel
theorem rowOf_hit (f : ByteArray) (i : Fin 62) (h : hit f i = true) : rowOf f = some i := by
  unfold rowOf
  cases hq : (List.finRange 62).find? (hit f) with
  | none =>
    have := List.find?_eq_none.1 hq i (List.mem_finRange i)
    exact absurd h this
  | some j =>
    have hj := List.find?_some hq
    rw [hit_unique f j i hj h]
theorem name_facts (r : Nat) (hr : r < 62) : S (fold (nmN r)) = S (nmN r) ∧ Typ (S (nmN r)) ∧ canN (S (nmN r)) = S (nmN r) ∧ lin (S (nmN r)) = lr r ∧ synN (S (nmN r)) = SYN.getD r 0 := by
  obtain ⟨h1, h2, h3⟩ := row_facts ⟨r, hr⟩
  have h4 := rowOf_hit _ _ h3
  have hnm : nmN r = (rowL ⟨r, hr⟩).1.data.toList := by unfold nmN; rw [dif_pos hr]
  have hcan : canN (S (nmN r)) = S (nmN r) := by
    unfold canN
    have h4' : rowOf (S (nmN r)) = some ⟨r, hr⟩ := h4
    rw [h4', hnm, S_of]
  refine ⟨by rw [show fold (nmN r) = nmN r from h1], ?_, hcan, ?_, ?_⟩
  · unfold Typ
    have h2' : typE (nmN r) = ((nmN r).length, true) := h2
    rw [S_l, h2', S_size]
    exact ⟨rfl, rfl⟩
  · unfold lin lr noN
    have h4' : rowOf (S (nmN r)) = some ⟨r, hr⟩ := h4
    rw [hcan, S_l, h4']
  · unfold synN
    have h4' : rowOf (S (nmN r)) = some ⟨r, hr⟩ := h4
    rw [h4']
/-- What the law asks of the list of super types. -/
structure UpOk (f : ByteArray) (up : List (List UInt8)) : Prop where
  len : up.length ≤ 3
  pos : 0 < up.length
  head : up.getD 0 [] = (canN f).data.toList
  each : ∀ i, i < up.length → S (fold (up.getD i [])) = S (up.getD i []) ∧ Typ (S (up.getD i [])) ∧ canN (S (up.getD i [])) = S (up.getD i []) ∧ lin (S (up.getD i [])) = up.drop i ∧ synN (S (up.getD i [])) = synN f
  ord : ∀ i j, i < up.length → j < up.length → decide (up.getD j [] ∈ up.drop i) = decide (i ≤ j)
  size : ∀ i, i < up.length → (up.getD i []).length ≤ 140737488355328
theorem nm_size : ∀ r : Fin 62, (nmN r.val).length ≤ 64 := by decide +kernel
theorem chn_zero : chn 3 (upN 0) = [] := by decide
theorem upOk (s f : ByteArray) (hf : S (fold s.data.toList) = f) (hs : s.size ≤ 140737488355328) (hT : Typ f) : UpOk f (lin f) := by
  have hff : fold f.data.toList = f.data.toList := by rw [← hf, S_l]; exact TextMath.fold_fold _
  cases hrow : rowOf f with
  | none =>
    have hcan : canN f = f := by unfold canN; rw [hrow]
    have hl : lin f = [f.data.toList] := by
      unfold lin noN
      rw [hrow, hcan]
      show f.data.toList :: chn 3 (upN 0) = _
      rw [chn_zero]
    rw [hl]
    refine ⟨by simp, by simp, by simp [hcan], ?_, ?_, ?_⟩
    · intro i hi
      have : i = 0 := by simp at hi; exact hi
      subst this
      simp only [List.getD_cons_zero, List.drop_zero, S_of]
      exact ⟨by rw [hff, S_of], hT, hcan, hl, trivial⟩
    · intro i j hi hj
      have h1 : i = 0 := by simp at hi; exact hi
      have h2 : j = 0 := by simp at hj; exact hj
      subst h1 h2
      simp
    · intro i hi
      have : i = 0 := by simp at hi; exact hi
      subst this
      simp only [List.getD_cons_zero]
      rw [size_l, ← hf, fold_size]
      exact hs
  | some r =>
    have hcan : canN f = S (nmN r.1) := by
      unfold canN
      rw [hrow]
      have hnm : nmN r.1 = (rowL r).1.data.toList := by unfold nmN; rw [dif_pos r.2]
      rw [hnm, S_of]
    have hl : lin f = lr r.1 := by
      unfold lin noN lr
      rw [hrow, hcan, S_l]
    have hsy : synN f = SYN.getD r.1 0 := by unfold synN; rw [hrow]
    have h3 := lr_len r
    rw [hl]
    refine ⟨h3, by unfold lr; simp, by rw [hcan, S_l]; rfl, ?_, ?_, ?_⟩
    · intro i hi
      have hi4 : i < 4 := by omega
      obtain ⟨q1, q2, q3, q4⟩ := chain_facts r ⟨i, hi4⟩ hi
      have q2' : (lr r.1).getD i [] = nmN (anc r.1 i) := q2
      have q3' : lr (anc r.1 i) = (lr r.1).drop i := q3
      have q4' : SYN.getD (anc r.1 i) 0 = SYN.getD r.1 0 := q4
      obtain ⟨a1, a2, a3, a4, a5⟩ := name_facts (anc r.1 i) q1
      rw [q2']
      exact ⟨a1, a2, a3, by rw [a4]; exact q3', by rw [a5, hsy]; exact q4'⟩
    · intro i j hi hj
      exact order_facts r ⟨i, by omega⟩ ⟨j, by omega⟩ hi hj
    · intro i hi
      have hi4 : i < 4 := by omega
      obtain ⟨q1, q2, _, _⟩ := chain_facts r ⟨i, hi4⟩ hi
      have q2' : (lr r.1).getD i [] = nmN (anc r.1 i) := q2
      rw [q2']
      have h64 : (nmN (anc r.1 i)).length ≤ 64 := nm_size ⟨anc r.1 i, q1⟩
      omega
end Go.Proofs.YtfmhcgadgakbhaaGreatDoor

namespace Go.Proofs.YtfmhcgadgakbhaaGreatDoor
open TextMath (fold lo)
set_option linter.unusedVariables false

theorem lin_none (f : ByteArray) (h : rowOf f = none) : lin f = [f.data.toList] ∧ canN f = f := by
  have hc : canN f = f := by unfold canN; rw [h]
  refine ⟨?_, hc⟩
  unfold lin noN
  rw [h, hc]
  show _ :: chn 3 (upN 0) = _
  rw [chn_zero]
theorem lin_row (f : ByteArray) (i : Fin 62) (h : rowOf f = some i) : lin f = lr i.val ∧ (canN f).data.toList = nmN i.val := by
  have hnm : nmN i.val = (rowL i).1.data.toList := by unfold nmN; rw [dif_pos i.2]
  have hc : (canN f).data.toList = nmN i.val := by unfold canN; rw [h, hnm]
  refine ⟨?_, hc⟩
  unfold lin noN lr
  rw [hc, h]
theorem row_self (r : Nat) (hr : r < 62) : rowOf (S (nmN r)) = some ⟨r, hr⟩ := rowOf_hit _ _ (row_facts ⟨r, hr⟩).2.2
theorem lr_mem (r : Nat) (hr : r < 62) (x : List UInt8) (hx : x ∈ lr r) : ∃ j q, q < 62 ∧ x = nmN q ∧ lr q = (lr r).drop j := by
  obtain ⟨j, hj, e⟩ := List.getElem_of_mem hx
  have h3 := lr_len ⟨r, hr⟩
  have hj4 : j < 4 := by have : (lr r).length ≤ 3 := h3; omega
  obtain ⟨h1, h2, h4, _⟩ := chain_facts ⟨r, hr⟩ ⟨j, hj4⟩ hj
  refine ⟨j, anc r j, h1, ?_, h4⟩
  rw [← h2]
  show x = (lr r).getD j []
  rw [List.getD, List.getElem?_eq_getElem hj, Option.getD_some, e]
theorem lin_head (f : ByteArray) : (lin f).head? = some (canN f).data.toList := rfl
theorem lin_drop (f g : ByteArray) (h : (canN f).data.toList ∈ lin g) : ∃ j, lin f = (lin g).drop j := by
  cases hg : rowOf g with
  | none =>
    obtain ⟨g1, g2⟩ := lin_none g hg
    rw [g1, List.mem_singleton] at h
    cases hf : rowOf f with
    | none =>
      obtain ⟨f1, f2⟩ := lin_none f hf
      rw [f2] at h
      exact ⟨0, by rw [f1, g1, h]; rfl⟩
    | some i =>
      obtain ⟨f1, f2⟩ := lin_row f i hf
      rw [f2] at h
      have e := row_self i.val i.2
      rw [h, S_of, hg] at e
      cases e
  | some r =>
    obtain ⟨g1, g2⟩ := lin_row g r hg
    rw [g1] at h ⊢
    obtain ⟨j, q, hq, e, hd⟩ := lr_mem r.val r.2 _ h
    refine ⟨j, ?_⟩
    have e2 := row_self q hq
    cases hf : rowOf f with
    | none =>
      obtain ⟨f1, f2⟩ := lin_none f hf
      rw [f2] at e
      rw [← e, S_of, hf] at e2
      cases e2
    | some i =>
      obtain ⟨f1, f2⟩ := lin_row f i hf
      rw [f2] at e
      have e3 := row_self i.val i.2
      rw [e, e2] at e3
      have e4 : q = i.val := congrArg Fin.val (Option.some.inj e3)
      rw [f1, ← e4, ← hd]
theorem lin_trans (f g k : ByteArray) (h1 : (canN f).data.toList ∈ lin g) (h2 : (canN g).data.toList ∈ lin k) : (canN f).data.toList ∈ lin k := by
  obtain ⟨j, e⟩ := lin_drop g k h2
  rw [e] at h1
  exact List.mem_of_mem_drop h1
theorem lin_anti (f g : ByteArray) (h1 : (canN f).data.toList ∈ lin g) (h2 : (canN g).data.toList ∈ lin f) : (canN f).data.toList = (canN g).data.toList := by
  obtain ⟨j, e⟩ := lin_drop f g h1
  obtain ⟨k, d⟩ := lin_drop g f h2
  have l1 := congrArg List.length e
  have l2 := congrArg List.length d
  rw [List.length_drop] at l1 l2
  have lf : 0 < (lin f).length := by unfold lin; simp
  have lg : 0 < (lin g).length := by unfold lin; simp
  have hj : j = 0 := by omega
  subst hj
  have hh := congrArg List.head? e
  rw [List.drop_zero, lin_head, lin_head] at hh
  exact Option.some.inj hh

/-- No mark in a text. -/
def No59 (l : List UInt8) : Prop := ∀ b ∈ l, b ≠ 59
theorem first59 (l : List UInt8) : No59 l ∨ ∃ p r, l = p ++ 59 :: r ∧ No59 p := by
  induction l with
  | nil => exact Or.inl (fun b hb => by simp at hb)
  | cons a l ih =>
    by_cases ha : a = 59
    · exact Or.inr ⟨[], l, by rw [ha]; rfl, fun b hb => by simp at hb⟩
    · rcases ih with h | ⟨p, r, e, h⟩
      · exact Or.inl (fun b hb => (List.mem_cons.1 hb).elim (fun q => q ▸ ha) (h b))
      · exact Or.inr ⟨a :: p, r, by rw [e]; rfl, fun b hb => (List.mem_cons.1 hb).elim (fun q => q ▸ ha) (h b)⟩
theorem typE_no59 (l : List UInt8) : No59 (l.take (typE l).1) := by
  rcases first59 l with h | ⟨p, r, rfl, h⟩
  · exact fun b hb => h b (List.mem_of_mem_take hb)
  · rw [typE_semi]
    have hle := typE_le p
    rw [List.take_append_of_le_length hle]
    exact fun b hb => h b (List.mem_of_mem_take hb)
theorem nm_no59 : ∀ r : Fin 62, ∀ b ∈ nmN r.val, b ≠ 59 := by decide +kernel
theorem can_no59 (f : ByteArray) : No59 (canN (typD f)).data.toList := by
  cases hr : rowOf (typD f) with
  | none =>
    rw [(lin_none _ hr).2]
    unfold typD
    rw [ByteArray.data_extract, Array.toList_extract, List.extract_eq_take_drop]
    simpa using typE_no59 f.data.toList
  | some i =>
    rw [(lin_row _ i hr).2]
    exact nm_no59 i
theorem isK_no59 (b : UInt8) (h : isK b = true) : b ≠ 59 := by
  intro e
  subst e
  revert h
  decide
theorem mem_while (p : UInt8 → Bool) : ∀ (l : List UInt8) (b : UInt8), b ∈ l.takeWhile p → p b = true
  | [], b, h => by simp at h
  | a :: l, b, h => by
    rw [List.takeWhile_cons] at h
    by_cases ha : p a = true
    · rw [if_pos ha] at h
      rcases List.mem_cons.1 h with rfl | h
      · exact ha
      · exact mem_while p l b h
    · rw [if_neg ha] at h; simp at h
theorem take_while (p : UInt8 → Bool) (l : List UInt8) : l.take (l.takeWhile p).length = l.takeWhile p := by
  induction l with
  | nil => simp
  | cons a l ih =>
    rw [List.takeWhile_cons]
    split
    · simp [ih]
    · simp
theorem dscE_no59 (s : ByteArray) : ∀ n e acc, (∀ z ∈ acc, No59 z) → ∀ z ∈ (dscE s n e acc).1, No59 z
  | 0, e, acc, h => by simp [dscE]
  | n + 1, e, acc, h => by
    unfold dscE
    split
    · split
      · split
        · simp
        · refine dscE_no59 s n _ _ ?_
          intro z hz
          rcases List.mem_append.1 hz with hz | hz
          · exact h z hz
          · rw [List.mem_singleton.1 hz]
            intro b hb
            rw [ByteArray.data_extract, Array.toList_extract, List.extract_eq_take_drop] at hb
            unfold runE at hb
            rw [show e + 1 + ((s.data.toList.drop (e + 1)).takeWhile isK).length - (e + 1) = ((s.data.toList.drop (e + 1)).takeWhile isK).length by omega, take_while] at hb
            exact isK_no59 b (mem_while isK _ b hb)
      · simp
    · exact h
theorem desc_no59 (f : ByteArray) : ∀ z ∈ (desc f).1, No59 z := by
  unfold desc
  split
  · exact dscE_no59 f _ _ [] (by simp)
  · simp
theorem while_no59 (p : List UInt8) (zs : List (List UInt8)) (h : No59 p) : (p ++ semis zs).takeWhile (fun b => b != 59) = p := by
  induction p with
  | nil =>
    cases zs with
    | nil => simp [semis]
    | cons z zs => rw [semis_cons]; simp
  | cons a p ih =>
    rw [List.cons_append, List.takeWhile_cons, if_pos (by simpa using h a (by simp)), ih (fun b hb => h b (by simp [hb]))]
theorem split59 (p q : List UInt8) (hp : No59 p) (hq : No59 q) : ∀ (s t : List (List UInt8)), (∀ z ∈ s, No59 z) → (∀ z ∈ t, No59 z) → p ++ semis s = q ++ semis t → p = q ∧ semis s = semis t := by
  intro s t hs ht e
  have h := congrArg (List.takeWhile (fun b => b != 59)) e
  rw [while_no59 p s hp, while_no59 q t hq] at h
  subst h
  exact ⟨rfl, List.append_cancel_left e⟩
theorem semis_inj : ∀ (s t : List (List UInt8)), (∀ z ∈ s, No59 z) → (∀ z ∈ t, No59 z) → semis s = semis t → s = t
  | [], [], _, _, _ => rfl
  | [], z :: t, _, _, h => by rw [semis_cons] at h; cases h
  | z :: s, [], _, _, h => by rw [semis_cons] at h; cases h
  | z :: s, y :: t, hs, ht, h => by
    rw [semis_cons, semis_cons] at h
    injection h with _ h
    obtain ⟨e1, e2⟩ := split59 z y (hs z (by simp)) (ht y (by simp)) s t (fun x hx => hs x (by simp [hx])) (fun x hx => ht x (by simp [hx])) h
    rw [e1, semis_inj s t (fun x hx => hs x (by simp [hx])) (fun x hx => ht x (by simp [hx])) e2]
end Go.Proofs.YtfmhcgadgakbhaaGreatDoor

namespace Go.Proofs.YtfmhcgadgakbhaaGreatDoor
open TextMath (fold lo)
set_option linter.unusedVariables false

theorem srt_perm (l : List (List UInt8)) : (srt l).Perm l := List.mergeSort_perm _ _
theorem srt_mem (l : List (List UInt8)) (x : List UInt8) : x ∈ srt l ↔ x ∈ l := (srt_perm l).mem_iff
theorem srt_ord (l : List (List UInt8)) : (srt l).Pairwise (fun x y => decide (x ≤ y) = true) :=
  List.pairwise_mergeSort (le := fun x y : List UInt8 => decide (x ≤ y)) (fun a b c h1 h2 => decide_eq_true (List.le_trans (of_decide_eq_true h1) (of_decide_eq_true h2)))
    (fun a b => by
      rcases List.le_total a b with h | h
      · simp [h]
      · simp [h]) l
theorem srt_same (a b : List (List UInt8)) (ha : a.Nodup) (hb : b.Nodup) (h : ∀ z, z ∈ a ↔ z ∈ b) : srt a = srt b := by
  have hp : a.Perm b := (List.perm_ext_iff_of_nodup ha hb).2 (fun z => h z)
  refine List.Perm.eq_of_pairwise (le := fun x y : List UInt8 => decide (x ≤ y) = true) ?_ (srt_ord a) (srt_ord b) (((srt_perm a).trans hp).trans (srt_perm b).symm)
  intro x y _ _ h1 h2
  exact List.le_antisymm (of_decide_eq_true h1) (of_decide_eq_true h2)

/-- A description's canonical text. -/
def CanIs (f : ByteArray) (x : List UInt8) : Prop := ∃ L : List (List UInt8), L.Nodup ∧ (∀ z, z ∈ L ↔ z ∈ (desc f).1) ∧ x = (canN (typD f)).data.toList ++ semis (srt L)
theorem can_eq (f g : ByteArray) (x y : List UInt8) (hx : CanIs f x) (hy : CanIs g y) : x = y ↔ (canN (typD f)).data.toList = (canN (typD g)).data.toList ∧ ∀ z, z ∈ (desc f).1 ↔ z ∈ (desc g).1 := by
  obtain ⟨L, l1, l2, rfl⟩ := hx
  obtain ⟨K, k1, k2, rfl⟩ := hy
  have nL : ∀ z ∈ srt L, No59 z := fun z hz => desc_no59 f z ((l2 z).1 ((srt_mem L z).1 hz))
  have nK : ∀ z ∈ srt K, No59 z := fun z hz => desc_no59 g z ((k2 z).1 ((srt_mem K z).1 hz))
  constructor
  · intro e
    obtain ⟨e1, e2⟩ := split59 _ _ (can_no59 f) (can_no59 g) (srt L) (srt K) nL nK e
    have e3 := semis_inj _ _ nL nK e2
    refine ⟨e1, fun z => ?_⟩
    rw [← l2, ← k2, ← srt_mem L, ← srt_mem K, e3]
  · rintro ⟨e1, e2⟩
    rw [e1, srt_same L K l1 k1 (fun z => by rw [l2, k2, e2])]
theorem cov_iff (f g : ByteArray) : covB f g = true ↔ (desc f).2.2 = true ∧ (desc g).2.2 = true ∧ (∀ z ∈ (desc f).1, z ∈ (desc g).1) ∧ (canN (typD f)).data.toList ∈ lin (typD g) := by
  unfold covB holds
  simp only [Bool.and_eq_true, List.all_eq_true, decide_eq_true_iff]
  constructor
  · rintro ⟨⟨⟨h1, h2⟩, h3⟩, h4⟩; exact ⟨h1, h2, h3, h4⟩
  · rintro ⟨h1, h2, h3, h4⟩; exact ⟨⟨⟨h1, h2⟩, h3⟩, h4⟩
theorem lin_own (f : ByteArray) : (canN f).data.toList ∈ lin f := by unfold lin; simp
theorem cov_refl (f : ByteArray) : covB f f = (desc f).2.2 := by
  rw [Bool.eq_iff_iff, cov_iff]
  exact ⟨fun h => h.1, fun h => ⟨h, h, fun _ hz => hz, lin_own _⟩⟩
theorem cov_trans (f g k : ByteArray) (h1 : covB f g = true) (h2 : covB g k = true) : covB f k = true := by
  rw [cov_iff] at *
  exact ⟨h1.1, h2.2.1, fun z hz => h2.2.2.1 z (h1.2.2.1 z hz), lin_trans _ _ _ h1.2.2.2 h2.2.2.2⟩
theorem cov_anti (f g : ByteArray) (x y : List UInt8) (h : covB f g = true) (hx : CanIs f x) (hy : CanIs g y) : covB g f = decide (x = y) := by
  rw [cov_iff] at h
  rw [Bool.eq_iff_iff, cov_iff, decide_eq_true_iff, can_eq f g x y hx hy]
  constructor
  · rintro ⟨_, _, h3, h4⟩
    exact ⟨lin_anti _ _ h.2.2.2 h4, fun z => ⟨h.2.2.1 z, h3 z⟩⟩
  · rintro ⟨e1, e2⟩
    refine ⟨h.2.1, h.1, fun z hz => (e2 z).2 hz, ?_⟩
    rw [← e1]
    exact lin_own _
end Go.Proofs.YtfmhcgadgakbhaaGreatDoor
