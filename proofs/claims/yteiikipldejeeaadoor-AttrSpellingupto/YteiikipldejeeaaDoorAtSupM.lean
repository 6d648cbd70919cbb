import Derived.Test.YteiikipldejeeaaDoorAtCov
namespace Go.Proofs.YteiikipldejeeaaDoor
open Go.RowKit
open TextMath (fold lo)
set_option linter.unusedVariables false

/-- A row's name and what stands above it. -/
def lr (r : Nat) : List (List UInt8) := nmN r :: chn 3 (upN r)
def anc (r : Nat) : Nat → Nat
  | 0 => r
  | i + 1 => upN (anc r i)
theorem row_facts : ∀ r : Fin 62, fold (nmN r.val) = nmN r.val ∧ typE (nmN r.val) = ((nmN r.val).length, true) ∧ hit (S (nmN r.val)) r = true := by decide +kernel
theorem chain_facts : ∀ r : Fin 62, ∀ i : Fin 4, i.val < (lr r.val).length → anc r.val i.val < 62 ∧ (lr r.val).getD i.val [] = nmN (anc r.val i.val) ∧ lr (anc r.val i.val) = (lr r.val).drop i.val ∧ SYN.getD (anc r.val i.val) 0 = SYN.getD r.val 0 := by decide +kernel
theorem order_facts : ∀ r : Fin 62, ∀ i j : Fin 4, i.val < (lr r.val).length → j.val < (lr r.val).length → decide ((lr r.val).getD j.val [] ∈ (lr r.val).drop i.val) = decide (i.val ≤ j.val) := by decide +kernel
theorem lr_len : ∀ r : Fin 62, (lr r.val).length ≤ 3 := by decide +kernel
theorem rowOf_hit (f : ByteArray) (i : Fin 62) (h : hit f i = true) : rowOf f = some i := by
  unfold rowOf
  cases hq : (List.finRange 62).find? (hit f) with
  | none =>
    have := List.find?_eq_none.1 hq i (List.mem_finRange i)
    exact absurd h this
  | some j =>
    have hj := List.find?_some hq
    rw [hit_unique f j i hj h]
theorem name_facts (r : Nat) (hr : r < 62) : S (fold (nmN r)) = S (nmN r) ∧ Typ (S (nmN r)) ∧ canN (S (nmN r)) = S (nmN r) ∧ lin (S (nmN r)) = lr r ∧ synN (S (nmN r)) = SYN.getD r 0 := by
  obtain ⟨h1, h2, h3⟩ := row_facts ⟨r, hr⟩
  have h4 := rowOf_hit _ _ h3
  have hnm : nmN r = (rowL ⟨r, hr⟩).1.data.toList := by unfold nmN; rw [dif_pos hr]
  have hcan : canN (S (nmN r)) = S (nmN r) := by
    unfold canN
    have h4' : rowOf (S (nmN r)) = some ⟨r, hr⟩ := h4
    rw [h4', hnm, S_of]
  refine ⟨by rw [show fold (nmN r) = nmN r from h1], ?_, hcan, ?_, ?_⟩
  · unfold Typ
    have h2' : typE (nmN r) = ((nmN r).length, true) := h2
    rw [S_l, h2', S_size]
    exact ⟨rfl, rfl⟩
  · unfold lin lr noN
    have h4' : rowOf (S (nmN r)) = some ⟨r, hr⟩ := h4
    rw [hcan, S_l, h4']
  · unfold synN
    have h4' : rowOf (S (nmN r)) = some ⟨r, hr⟩ := h4
    rw [h4']
/-- What the law asks of the list of super types. -/
structure UpOk (f : ByteArray) (up : List (List UInt8)) : Prop where
  len : up.length ≤ 3
  pos : 0 < up.length
  head : up.getD 0 [] = (canN f).data.toList
  each : ∀ i, i < up.length → S (fold (up.getD i [])) = S (up.getD i []) ∧ Typ (S (up.getD i [])) ∧ canN (S (up.getD i [])) = S (up.getD i []) ∧ lin (S (up.getD i [])) = up.drop i ∧ synN (S (up.getD i [])) = synN f
  ord : ∀ i j, i < up.length → j < up.length → decide (up.getD j [] ∈ up.drop i) = decide (i ≤ j)
  size : ∀ i, i < up.length → (up.getD i []).length ≤ 140737488355328
theorem nm_size : ∀ r : Fin 62, (nmN r.val).length ≤ 64 := by decide +kernel
theorem chn_zero : chn 3 (upN 0) = [] := by decide
theorem upOk (s f : ByteArray) (hf : S (fold s.data.toList) = f) (hs : s.size ≤ 140737488355328) (hT : Typ f) : UpOk f (lin f) := by
  have hff : fold f.data.toList = f.data.toList := by rw [← hf, S_l]; exact TextMath.fold_fold _
  cases hrow : rowOf f with
  | none =>
    have hcan : canN f = f := by unfold canN; rw [hrow]
    have hl : lin f = [f.data.toList] := by
      unfold lin noN
      rw [hrow, hcan]
      show f.data.toList :: chn 3 (upN 0) = _
      rw [chn_zero]
    rw [hl]
    refine ⟨by simp, by simp, by simp [hcan], ?_, ?_, ?_⟩
    · intro i hi
      have : i = 0 := by simp at hi; exact hi
      subst this
      simp only [List.getD_cons_zero, List.drop_zero, S_of]
      exact ⟨by rw [hff, S_of], hT, hcan, hl, trivial⟩
    · intro i j hi hj
      have h1 : i = 0 := by simp at hi; exact hi
      have h2 : j = 0 := by simp at hj; exact hj
      subst h1 h2
      simp
    · intro i hi
      have : i = 0 := by simp at hi; exact hi
      subst this
      simp only [List.getD_cons_zero]
      rw [size_l, ← hf, fold_size]
      exact hs
  | some r =>
    have hcan : canN f = S (nmN r.1) := by
      unfold canN
      rw [hrow]
      have hnm : nmN r.1 = (rowL r).1.data.toList := by unfold nmN; rw [dif_pos r.2]
      rw [hnm, S_of]
    have hl : lin f = lr r.1 := by
      unfold lin noN lr
      rw [hrow, hcan, S_l]
    have hsy : synN f = SYN.getD r.1 0 := by unfold synN; rw [hrow]
    have h3 := lr_len r
    rw [hl]
    refine ⟨h3, by unfold lr; simp, by rw [hcan, S_l]; rfl, ?_, ?_, ?_⟩
    · intro i hi
      have hi4 : i < 4 := by omega
      obtain ⟨q1, q2, q3, q4⟩ := chain_facts r ⟨i, hi4⟩ hi
      have q2' : (lr r.1).getD i [] = nmN (anc r.1 i) := q2
      have q3' : lr (anc r.1 i) = (lr r.1).drop i := q3
      have q4' : SYN.getD (anc r.1 i) 0 = SYN.getD r.1 0 := q4
      obtain ⟨a1, a2, a3, a4, a5⟩ := name_facts (anc r.1 i) q1
      rw [q2']
      exact ⟨a1, a2, a3, by rw [a4]; exact q3', by rw [a5, hsy]; exact q4'⟩
    · intro i j hi hj
      exact order_facts r ⟨i, by omega⟩ ⟨j, by omega⟩ hi hj
    · intro i hi
      have hi4 : i < 4 := by omega
      obtain ⟨q1, q2, _, _⟩ := chain_facts r ⟨i, hi4⟩ hi
      have q2' : (lr r.1).getD i [] = nmN (anc r.1 i) := q2
      rw [q2']
      have h64 : (nmN (anc r.1 i)).length ≤ 64 := nm_size ⟨anc r.1 i, q1⟩
      omega
end Go.Proofs.YteiikipldejeeaaDoor
