import Derived.Test.YteiikipldejeeaaDoorAtMoreM
import Derived.Test.YteiikipldejeeaaDoorAtSupM
namespace Go.Proofs.YteiikipldejeeaaDoor
open TextMath (fold lo)
set_option linter.unusedVariables false

theorem lin_none (f : ByteArray) (h : rowOf f = none) : lin f = [f.data.toList] ∧ canN f = f := by
  have hc : canN f = f := by unfold canN; rw [h]
  refine ⟨?_, hc⟩
  unfold lin noN
  rw [h, hc]
  show _ :: chn 3 (upN 0) = _
  rw [chn_zero]
theorem lin_row (f : ByteArray) (i : Fin 62) (h : rowOf f = some i) : lin f = lr i.val ∧ (canN f).data.toList = nmN i.val := by
  have hnm : nmN i.val = (rowL i).1.data.toList := by unfold nmN; rw [dif_pos i.2]
  have hc : (canN f).data.toList = nmN i.val := by unfold canN; rw [h, hnm]
  refine ⟨?_, hc⟩
  unfold lin noN lr
  rw [hc, h]
theorem row_self (r : Nat) (hr : r < 62) : rowOf (S (nmN r)) = some ⟨r, hr⟩ := rowOf_hit _ _ (row_facts ⟨r, hr⟩).2.2
theorem lr_mem (r : Nat) (hr : r < 62) (x : List UInt8) (hx : x ∈ lr r) : ∃ j q, q < 62 ∧ x = nmN q ∧ lr q = (lr r).drop j := by
  obtain ⟨j, hj, e⟩ := List.getElem_of_mem hx
  have h3 := lr_len ⟨r, hr⟩
  have hj4 : j < 4 := by have : (lr r).length ≤ 3 := h3; omega
  obtain ⟨h1, h2, h4, _⟩ := chain_facts ⟨r, hr⟩ ⟨j, hj4⟩ hj
  refine ⟨j, anc r j, h1, ?_, h4⟩
  rw [← h2]
  show x = (lr r).getD j []
  rw [List.getD, List.getElem?_eq_getElem hj, Option.getD_some, e]
theorem lin_head (f : ByteArray) : (lin f).head? = some (canN f).data.toList := rfl
theorem lin_drop (f g : ByteArray) (h : (canN f).data.toList ∈ lin g) : ∃ j, lin f = (lin g).drop j := by
  cases hg : rowOf g with
  | none =>
    obtain ⟨g1, g2⟩ := lin_none g hg
    rw [g1, List.mem_singleton] at h
    cases hf : rowOf f with
    | none =>
      obtain ⟨f1, f2⟩ := lin_none f hf
      rw [f2] at h
      exact ⟨0, by rw [f1, g1, h]; rfl⟩
    | some i =>
      obtain ⟨f1, f2⟩ := lin_row f i hf
      rw [f2] at h
      have e := row_self i.val i.2
      rw [h, S_of, hg] at e
      cases e
  | some r =>
    obtain ⟨g1, g2⟩ := lin_row g r hg
    rw [g1] at h ⊢
    obtain ⟨j, q, hq, e, hd⟩ := lr_mem r.val r.2 _ h
    refine ⟨j, ?_⟩
    have e2 := row_self q hq
    cases hf : rowOf f with
    | none =>
      obtain ⟨f1, f2⟩ := lin_none f hf
      rw [f2] at e
      rw [← e, S_of, hf] at e2
      cases e2
    | some i =>
      obtain ⟨f1, f2⟩ := lin_row f i hf
      rw [f2] at e
      have e3 := row_self i.val i.2
      rw [e, e2] at e3
      have e4 : q = i.val := congrArg Fin.val (Option.some.inj e3)
      rw [f1, ← e4, ← hd]
theorem lin_trans (f g k : ByteArray) (h1 : (canN f).data.toList ∈ lin g) (h2 : (canN g).data.toList ∈ lin k) : (canN f).data.toList ∈ lin k := by
  obtain ⟨j, e⟩ := lin_drop g k h2
  rw [e] at h1
  exact List.mem_of_mem_drop h1
theorem lin_anti (f g : ByteArray) (h1 : (canN f).data.toList ∈ lin g) (h2 : (canN g).data.toList ∈ lin f) : (canN f).data.toList = (canN g).data.toList := by
  obtain ⟨j, e⟩ := lin_drop f g h1
  obtain ⟨k, d⟩ := lin_drop g f h2
  have l1 := congrArg List.length e
  have l2 := congrArg List.length d
  rw [List.length_drop] at l1 l2
  have lf : 0 < (lin f).length := by unfold lin; simp
  have lg : 0 < (lin g).length := by unfold lin; simp
  have hj : j = 0 := by omega
  subst hj
  have hh := congrArg List.head? e
  rw [List.drop_zero, lin_head, lin_head] at hh
  exact Option.some.inj hh

/-- No mark in a text. -/
def No59 (l : List UInt8) : Prop := ∀ b ∈ l, b ≠ 59
theorem first59 (l : List UInt8) : No59 l ∨ ∃ p r, l = p ++ 59 :: r ∧ No59 p := by
  induction l with
  | nil => exact Or.inl (fun b hb => by simp at hb)
  | cons a l ih =>
    by_cases ha : a = 59
    · exact Or.inr ⟨[], l, by rw [ha]; rfl, fun b hb => by simp at hb⟩
    · rcases ih with h | ⟨p, r, e, h⟩
      · exact Or.inl (fun b hb => (List.mem_cons.1 hb).elim (fun q => q ▸ ha) (h b))
      · exact Or.inr ⟨a :: p, r, by rw [e]; rfl, fun b hb => (List.mem_cons.1 hb).elim (fun q => q ▸ ha) (h b)⟩
theorem typE_no59 (l : List UInt8) : No59 (l.take (typE l).1) := by
  rcases first59 l with h | ⟨p, r, rfl, h⟩
  · exact fun b hb => h b (List.mem_of_mem_take hb)
  · rw [typE_semi]
    have hle := typE_le p
    rw [List.take_append_of_le_length hle]
    exact fun b hb => h b (List.mem_of_mem_take hb)
theorem nm_no59 : ∀ r : Fin 62, ∀ b ∈ nmN r.val, b ≠ 59 := by decide +kernel
theorem can_no59 (f : ByteArray) : No59 (canN (typD f)).data.toList := by
  cases hr : rowOf (typD f) with
  | none =>
    rw [(lin_none _ hr).2]
    unfold typD
    rw [ByteArray.data_extract, Array.toList_extract, List.extract_eq_take_drop]
    simpa using typE_no59 f.data.toList
  | some i =>
    rw [(lin_row _ i hr).2]
    exact nm_no59 i
theorem isK_no59 (b : UInt8) (h : isK b = true) : b ≠ 59 := by
  intro e
  subst e
  revert h
  decide
theorem mem_while (p : UInt8 → Bool) : ∀ (l : List UInt8) (b : UInt8), b ∈ l.takeWhile p → p b = true
  | [], b, h => by simp at h
  | a :: l, b, h => by
    rw [List.takeWhile_cons] at h
    by_cases ha : p a = true
    · rw [if_pos ha] at h
      rcases List.mem_cons.1 h with rfl | h
      · exact ha
      · exact mem_while p l b h
    · rw [if_neg ha] at h; simp at h
theorem take_while (p : UInt8 → Bool) (l : List UInt8) : l.take (l.takeWhile p).length = l.takeWhile p := by
  induction l with
  | nil => simp
  | cons a l ih =>
    rw [List.takeWhile_cons]
    split
    · simp [ih]
    · simp
theorem dscE_no59 (s : ByteArray) : ∀ n e acc, (∀ z ∈ acc, No59 z) → ∀ z ∈ (dscE s n e acc).1, No59 z
  | 0, e, acc, h => by simp [dscE]
  | n + 1, e, acc, h => by
    unfold dscE
    split
    · split
      · split
        · simp
        · refine dscE_no59 s n _ _ ?_
          intro z hz
          rcases List.mem_append.1 hz with hz | hz
          · exact h z hz
          · rw [List.mem_singleton.1 hz]
            intro b hb
            rw [ByteArray.data_extract, Array.toList_extract, List.extract_eq_take_drop] at hb
            unfold runE at hb
            rw [show e + 1 + ((s.data.toList.drop (e + 1)).takeWhile isK).length - (e + 1) = ((s.data.toList.drop (e + 1)).takeWhile isK).length by omega, take_while] at hb
            exact isK_no59 b (mem_while isK _ b hb)
      · simp
    · exact h
theorem desc_no59 (f : ByteArray) : ∀ z ∈ (desc f).1, No59 z := by
  unfold desc
  split
  · exact dscE_no59 f _ _ [] (by simp)
  · simp
theorem while_no59 (p : List UInt8) (zs : List (List UInt8)) (h : No59 p) : (p ++ semis zs).takeWhile (fun b => b != 59) = p := by
  induction p with
  | nil =>
    cases zs with
    | nil => simp [semis]
    | cons z zs => rw [semis_cons]; simp
  | cons a p ih =>
    rw [List.cons_append, List.takeWhile_cons, if_pos (by simpa using h a (by simp)), ih (fun b hb => h b (by simp [hb]))]
theorem split59 (p q : List UInt8) (hp : No59 p) (hq : No59 q) : ∀ (s t : List (List UInt8)), (∀ z ∈ s, No59 z) → (∀ z ∈ t, No59 z) → p ++ semis s = q ++ semis t → p = q ∧ semis s = semis t := by
  intro s t hs ht e
  have h := congrArg (List.takeWhile (fun b => b != 59)) e
  rw [while_no59 p s hp, while_no59 q t hq] at h
  subst h
  exact ⟨rfl, List.append_cancel_left e⟩
theorem semis_inj : ∀ (s t : List (List UInt8)), (∀ z ∈ s, No59 z) → (∀ z ∈ t, No59 z) → semis s = semis t → s = t
  | [], [], _, _, _ => rfl
  | [], z :: t, _, _, h => by rw [semis_cons] at h; cases h
  | z :: s, [], _, _, h => by rw [semis_cons] at h; cases h
  | z :: s, y :: t, hs, ht, h => by
    rw [semis_cons, semis_cons] at h
    injection h with _ h
    obtain ⟨e1, e2⟩ := split59 z y (hs z (by simp)) (ht y (by simp)) s t (fun x hx => hs x (by simp [hx])) (fun x hx => ht x (by simp [hx])) h
    rw [e1, semis_inj s t (fun x hx => hs x (by simp [hx])) (fun x hx => ht x (by simp [hx])) e2]
end Go.Proofs.YteiikipldejeeaaDoor
