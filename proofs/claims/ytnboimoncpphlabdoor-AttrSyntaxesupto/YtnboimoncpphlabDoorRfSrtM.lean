import Derived.Test.YtnboimoncpphlabDoorAtEqS
import Derived.Test.YtnboimoncpphlabDoorAtOrdS
namespace Go.Proofs.YtnboimoncpphlabDoor
set_option linter.unusedVariables false

theorem less_iff : ∀ x y : List UInt8, Op.bytesLess x y = true ↔ x < y
  | _, [] => by simp [Op.bytesLess]
  | [], b :: y => by simp [Op.bytesLess]
  | a :: x, b :: y => by
    rw [List.cons_lt_cons_iff]
    unfold Op.bytesLess
    rw [Bool.or_eq_true, Bool.and_eq_true, decide_eq_true_iff, beq_iff_eq, less_iff x y]
/-- Strictly ascending. -/
def Up (r : List (List UInt8)) : Prop := r.Pairwise (fun x y => x < y)
theorem lt_transL {x y z : List UInt8} (h1 : x < y) (h2 : y < z) : x < z := List.lt_trans h1 h2
theorem lt_irreflL (x : List UInt8) : ¬ x < x := List.lt_irrefl x
theorem up_nodup {r : List (List UInt8)} (h : Up r) : r.Nodup := List.Pairwise.imp (S := fun a b => a ≠ b) (fun {a b} (hab : a < b) (e : a = b) => by subst e; exact lt_irreflL _ hab) h
theorem le_of_ltL {x y : List UInt8} (h : x < y) : x ≤ y := fun q => lt_irreflL x (lt_transL h q)
theorem up_eq {r k : List (List UInt8)} (hr : Up r) (hk : Up k) (h : ∀ z, z ∈ r ↔ z ∈ k) : r = k := by
  have hp : r.Perm k := (List.perm_ext_iff_of_nodup (up_nodup hr) (up_nodup hk)).2 h
  refine List.Perm.eq_of_pairwise (le := fun x y : List UInt8 => x ≤ y) ?_ (hr.imp le_of_ltL) (hk.imp le_of_ltL) hp
  intro x y _ _ h1 h2
  exact List.le_antisymm h1 h2
theorem eq_of_nlt {x y : List UInt8} (h1 : ¬ x < y) (h2 : ¬ y < x) : x = y := List.le_antisymm h2 h1
/-- How far a merging has come. -/
def Mg (a b : List (List UInt8)) (i j : Nat) (o : List (List UInt8)) : Prop :=
  Up o ∧ (∀ z ∈ o, z ∈ a ∨ z ∈ b) ∧ (∀ z ∈ a.take i, z ∈ o ∨ z ∈ b.drop j) ∧ (∀ z ∈ b.take j, z ∈ o) ∧ (∀ z ∈ o, (∀ y ∈ a.drop i, z < y) ∧ (∀ y ∈ b.drop j, z < y)) ∧ o.length ≤ i + j
theorem mg_start (a b : List (List UInt8)) : Mg a b 0 0 [] := ⟨List.Pairwise.nil, by simp, by simp, by simp, by simp, by simp⟩
theorem up_snoc {o : List (List UInt8)} {x : List UInt8} (h : Up o) (hx : ∀ z ∈ o, z < x) : Up (o ++ [x]) := by
  unfold Up
  rw [List.pairwise_append]
  exact ⟨h, List.pairwise_singleton _ _, fun z hz y hy => by rw [List.mem_singleton.1 hy]; exact hx z hz⟩
theorem up_head {a : List (List UInt8)} (h : Up a) {i : Nat} (hi : i < a.length) : ∀ y ∈ a.drop (i + 1), a[i] < y := by
  have h1 : Up (a.drop i) := List.Pairwise.sublist (List.drop_sublist i a) h
  rw [List.drop_eq_getElem_cons hi] at h1
  exact (List.pairwise_cons.1 h1).1
theorem mg_left {a b o : List (List UInt8)} {i j : Nat} (h : Mg a b i j o) (hi : i < a.length) (ha : Up a) (hx : ∀ y ∈ b.drop j, a[i] < y) : Mg a b (i + 1) j (o ++ [a[i]]) := by
  obtain ⟨h1, h2, h3, h4, h5, h6⟩ := h
  have hd := List.drop_eq_getElem_cons hi
  refine ⟨up_snoc h1 (fun z hz => (h5 z hz).1 _ (by rw [hd]; exact List.mem_cons_self)), fun z hz => ?_, fun z hz => ?_, fun z hz => List.mem_append_left _ (h4 z hz), fun z hz => ?_, ?_⟩
  · rcases List.mem_append.1 hz with hz | hz
    · exact h2 z hz
    · rw [List.mem_singleton.1 hz]; exact Or.inl (List.getElem_mem hi)
  · rw [List.take_succ_eq_append_getElem hi] at hz
    rcases List.mem_append.1 hz with hz | hz
    · rcases h3 z hz with q | q
      · exact Or.inl (List.mem_append_left _ q)
      · exact Or.inr q
    · exact Or.inl (List.mem_append_right _ hz)
  · rcases List.mem_append.1 hz with hz | hz
    · exact ⟨fun y hy => (h5 z hz).1 y (by rw [hd]; exact List.mem_cons_of_mem _ hy), (h5 z hz).2⟩
    · rw [List.mem_singleton.1 hz]; exact ⟨up_head ha hi, hx⟩
  · rw [List.length_append]; simp; omega
theorem mg_right {a b o : List (List UInt8)} {i j : Nat} (h : Mg a b i j o) (hj : j < b.length) (hb : Up b) (hx : ∀ y ∈ a.drop i, b[j] < y) : Mg a b i (j + 1) (o ++ [b[j]]) := by
  obtain ⟨h1, h2, h3, h4, h5, h6⟩ := h
  have hd := List.drop_eq_getElem_cons hj
  refine ⟨up_snoc h1 (fun z hz => (h5 z hz).2 _ (by rw [hd]; exact List.mem_cons_self)), fun z hz => ?_, fun z hz => ?_, fun z hz => ?_, fun z hz => ?_, ?_⟩
  · rcases List.mem_append.1 hz with hz | hz
    · exact h2 z hz
    · rw [List.mem_singleton.1 hz]; exact Or.inr (List.getElem_mem hj)
  · rcases h3 z hz with q | q
    · exact Or.inl (List.mem_append_left _ q)
    · rw [hd] at q
      rcases List.mem_cons.1 q with q | q
      · exact Or.inl (List.mem_append_right _ (List.mem_singleton.2 q))
      · exact Or.inr q
  · rw [List.take_succ_eq_append_getElem hj] at hz
    rcases List.mem_append.1 hz with hz | hz
    · exact List.mem_append_left _ (h4 z hz)
    · exact List.mem_append_right _ hz
  · rcases List.mem_append.1 hz with hz | hz
    · exact ⟨(h5 z hz).1, fun y hy => (h5 z hz).2 y (by rw [hd]; exact List.mem_cons_of_mem _ hy)⟩
    · rw [List.mem_singleton.1 hz]; exact ⟨hx, up_head hb hj⟩
  · rw [List.length_append]; simp; omega
theorem mg_skip {a b o : List (List UInt8)} {i j : Nat} (h : Mg a b i j o) (hi : i < a.length) (hj : j < b.length) (e : a[i] = b[j]) : Mg a b (i + 1) j o := by
  obtain ⟨h1, h2, h3, h4, h5, h6⟩ := h
  refine ⟨h1, h2, fun z hz => ?_, h4, fun z hz => ⟨fun y hy => (h5 z hz).1 y (by rw [List.drop_eq_getElem_cons hi]; exact List.mem_cons_of_mem _ hy), (h5 z hz).2⟩, by omega⟩
  rw [List.take_succ_eq_append_getElem hi] at hz
  rcases List.mem_append.1 hz with hz | hz
  · exact h3 z hz
  · right
    rw [List.mem_singleton.1 hz, e, List.drop_eq_getElem_cons hj]
    exact List.mem_cons_self
theorem mg_end {a b o : List (List UInt8)} (h : Mg a b a.length b.length o) : Up o ∧ (∀ z, z ∈ o ↔ z ∈ a ∨ z ∈ b) ∧ o.length ≤ a.length + b.length := by
  obtain ⟨h1, h2, h3, h4, h5, h6⟩ := h
  refine ⟨h1, fun z => ⟨h2 z, fun q => ?_⟩, h6⟩
  rw [List.take_length] at h3 h4
  rcases q with q | q
  · rcases h3 z q with r | r
    · exact r
    · rw [List.drop_length] at r; simp at r
  · exact h4 z q
theorem up_all {b : List (List UInt8)} (h : Up b) {j : Nat} (hj : j < b.length) {x : List UInt8} (hx : x < b[j]) : ∀ y ∈ b.drop j, x < y := by
  intro y hy
  rw [List.drop_eq_getElem_cons hj] at hy
  rcases List.mem_cons.1 hy with rfl | hy
  · exact hx
  · exact lt_transL hx (up_head h hj y hy)
end Go.Proofs.YtnboimoncpphlabDoor
