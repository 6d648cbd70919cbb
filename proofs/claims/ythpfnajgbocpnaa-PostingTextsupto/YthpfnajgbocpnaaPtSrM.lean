import Derived.Test.YthpfnajgbocpnaaPtMath
namespace Go.Proofs.Ythpfnajgbocpnaa
namespace PtMath
set_option linter.unusedVariables false

/-- Two rising lists, merged so far. -/
def MInv (A B O : List Nat) (i j : Nat) : Prop := i ≤ A.length ∧ j ≤ B.length ∧ Inc O ∧ O.length ≤ i + j ∧ (∀ o ∈ O, (∀ x ∈ A.drop i, o < x) ∧ ∀ x ∈ B.drop j, o < x) ∧ ∀ x, (x ∈ O ∨ x ∈ A.drop i ∨ x ∈ B.drop j) ↔ (x ∈ A ∨ x ∈ B)
theorem MInv.start (A B : List Nat) : MInv A B [] 0 0 := ⟨Nat.zero_le _, Nat.zero_le _, List.Pairwise.nil, Nat.zero_le _, fun o ho => by simp at ho, fun x => by simp⟩
theorem drop_step {A : List Nat} {i : Nat} (h : i < A.length) : A.drop i = A[i] :: A.drop (i + 1) := List.drop_eq_getElem_cons h
theorem inc_head {A : List Nat} {i : Nat} (hA : Inc A) (h : i < A.length) : ∀ x ∈ A.drop (i + 1), A[i] < x := by
  have := inc_drop hA i
  rw [drop_step h] at this
  exact (List.pairwise_cons.1 this).1
theorem inc_snoc {O : List Nat} {v : Nat} (h : Inc O) (hv : ∀ o ∈ O, o < v) : Inc (O ++ [v]) := by
  refine List.pairwise_append.2 ⟨h, List.pairwise_singleton _ _, fun a ha b hb => ?_⟩
  rw [List.mem_singleton] at hb
  subst hb
  exact hv a ha
theorem MInv.takeA {A B O : List Nat} {i j : Nat} (h : MInv A B O i j) (hA : Inc A) (hB : Inc B) (hi : i < A.length) (hb : ∀ x ∈ B.drop j, A[i] < x) : MInv A B (O ++ [A[i]]) (i + 1) j := by
  obtain ⟨h1, h2, h3, h4, h5, h6⟩ := h
  have e := drop_step hi
  refine ⟨hi, h2, inc_snoc h3 (fun o ho => (h5 o ho).1 _ (by rw [e]; exact List.mem_cons_self ..)), by simp; omega, fun o ho => ?_, fun x => ?_⟩
  · rcases List.mem_append.1 ho with ho | ho
    · exact ⟨fun x hx => (h5 o ho).1 x (by rw [e]; exact List.mem_cons_of_mem _ hx), (h5 o ho).2⟩
    · rw [List.mem_singleton] at ho
      subst ho
      exact ⟨inc_head hA hi, hb⟩
  · rw [← h6 x, e, List.mem_append, List.mem_singleton, List.mem_cons]
    constructor
    · rintro ((h | h) | h | h)
      · exact Or.inl h
      · exact Or.inr (Or.inl (Or.inl h))
      · exact Or.inr (Or.inl (Or.inr h))
      · exact Or.inr (Or.inr h)
    · rintro (h | (h | h) | h)
      · exact Or.inl (Or.inl h)
      · exact Or.inl (Or.inr h)
      · exact Or.inr (Or.inl h)
      · exact Or.inr (Or.inr h)
theorem MInv.swap {A B O : List Nat} {i j : Nat} (h : MInv A B O i j) : MInv B A O j i := by
  obtain ⟨h1, h2, h3, h4, h5, h6⟩ := h
  exact ⟨h2, h1, h3, by omega, fun o ho => ⟨(h5 o ho).2, (h5 o ho).1⟩, fun x => by rw [or_comm (a := x ∈ B), ← h6 x, or_comm (a := x ∈ A.drop i)]⟩
theorem MInv.takeB {A B O : List Nat} {i j : Nat} (h : MInv A B O i j) (hA : Inc A) (hB : Inc B) (hj : j < B.length) (ha : ∀ x ∈ A.drop i, B[j] < x) : MInv A B (O ++ [B[j]]) i (j + 1) := (h.swap.takeA hB hA hj ha).swap
theorem MInv.skipA {A B O : List Nat} {i j : Nat} (h : MInv A B O i j) (hi : i < A.length) (hj : j < B.length) (e0 : A[i] = B[j]) : MInv A B O (i + 1) j := by
  obtain ⟨h1, h2, h3, h4, h5, h6⟩ := h
  have e := drop_step hi
  have f := drop_step hj
  refine ⟨hi, h2, h3, by omega, fun o ho => ⟨fun x hx => (h5 o ho).1 x (by rw [e]; exact List.mem_cons_of_mem _ hx), (h5 o ho).2⟩, fun x => ?_⟩
  rw [← h6 x, e, List.mem_cons]
  constructor
  · rintro (h | h | h)
    · exact Or.inl h
    · exact Or.inr (Or.inl (Or.inr h))
    · exact Or.inr (Or.inr h)
  · rintro (h | (h | h) | h)
    · exact Or.inl h
    · refine Or.inr (Or.inr ?_)
      rw [f, h, e0]
      exact List.mem_cons_self ..
    · exact Or.inr (Or.inl h)
    · exact Or.inr (Or.inr h)
theorem less_drop {A : List Nat} {i : Nat} {v : Nat} (hA : Inc A) (hi : i < A.length) (h : v < A[i]) : ∀ x ∈ A.drop i, v < x := by
  intro x hx
  rw [drop_step hi, List.mem_cons] at hx
  rcases hx with rfl | hx
  · exact h
  · exact Nat.lt_trans h (inc_head hA hi x hx)
theorem less_none {A : List Nat} {v : Nat} : ∀ x ∈ A.drop A.length, v < x := by
  intro x hx
  rw [List.drop_length] at hx
  simp at hx
theorem MInv.done {l O : List Nat} {k : Nat} (h : MInv (setOf (l.take k)) (setOf (l.drop k)) O (setOf (l.take k)).length (setOf (l.drop k)).length) : O = setOf l := by
  obtain ⟨h1, h2, h3, h4, h5, h6⟩ := h
  refine inc_eq _ _ h3 (setOf_inc _) fun x => ?_
  have := h6 x
  rw [List.drop_length, List.drop_length, setOf_mem, setOf_mem] at this
  rw [setOf_mem]
  have e : x ∈ l ↔ x ∈ l.take k ∨ x ∈ l.drop k := by
    rw [← List.mem_append, List.take_append_drop]
  rw [e, ← this]
  simp
end PtMath
end Go.Proofs.Ythpfnajgbocpnaa
