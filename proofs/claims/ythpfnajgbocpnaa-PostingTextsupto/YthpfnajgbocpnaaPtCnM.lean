import Derived.Test.YthpfnajgbocpnaaPtSrM
namespace Go.Proofs.Ythpfnajgbocpnaa
namespace PtCnM
open PtMath (Inc)
set_option linter.unusedVariables false

/-- In how many of the lists x stands. -/
def occ (D : List (List Nat)) (x : Nat) : Nat := D.countP fun l => decide (x ∈ l)
theorem occ_perm {D E : List (List Nat)} (h : D.Perm E) (x : Nat) : occ D x = occ E x := h.countP_eq _
theorem occ_cons (l : List Nat) (D : List (List Nat)) (x : Nat) : occ (l :: D) x = occ D x + (if x ∈ l then 1 else 0) := by
  unfold occ
  rw [List.countP_cons]
  simp
theorem occ_pos {D : List (List Nat)} {x : Nat} : 0 < occ D x ↔ ∃ l ∈ D, x ∈ l := by
  unfold occ
  rw [List.countP_pos_iff]
  simp
/-- Lists that are rising and have a number. -/
def Good (D : List (List Nat)) : Prop := ∀ l ∈ D, l ≠ [] ∧ Inc l
theorem Good.perm {D E : List (List Nat)} (h : Good D) (p : D.Perm E) : Good E := fun l hl => h l (p.mem_iff.2 hl)
def stepL : List (List Nat) → List (List Nat)
  | [] => []
  | l :: T => if 1 < l.length then l.drop 1 :: T else T
theorem stepL_cons (l : List Nat) (T : List (List Nat)) : stepL (l :: T) = if 1 < l.length then l.drop 1 :: T else T := rfl
theorem occ_step {v : Nat} {t : List Nat} {T : List (List Nat)} (hl : Inc (v :: t)) (x : Nat) : occ ((v :: t) :: T) x = occ (stepL ((v :: t) :: T)) x + (if x = v then 1 else 0) := by
  have hv : v ∉ t := fun h => by have := (List.pairwise_cons.1 hl).1 v h; omega
  rw [stepL_cons]
  by_cases ht : 1 < (v :: t).length
  · rw [if_pos ht, occ_cons, occ_cons]
    simp only [List.drop_succ_cons, List.drop_zero, List.mem_cons]
    by_cases e : x = v
    · subst e; simp [hv]
    · simp [e]
  · rw [if_neg ht, occ_cons]
    have : t = [] := by
      cases t with
      | nil => rfl
      | cons y t => simp at ht
    subst this
    simp
theorem good_step {v : Nat} {t : List Nat} {T : List (List Nat)} (h : Good ((v :: t) :: T)) : Good (stepL ((v :: t) :: T)) := by
  intro l hl
  rw [stepL_cons] at hl
  by_cases ht : 1 < (v :: t).length
  · rw [if_pos ht] at hl
    rcases List.mem_cons.1 hl with e | hl
    · rw [e]
      simp only [List.drop_succ_cons, List.drop_zero]
      refine ⟨fun e => by subst e; simp at ht, (List.pairwise_cons.1 (h _ (List.mem_cons_self ..)).2).2⟩
    · exact h l (List.mem_cons_of_mem _ hl)
  · rw [if_neg ht] at hl
    exact h l (List.mem_cons_of_mem _ hl)
theorem mem_step {v : Nat} {t : List Nat} {T : List (List Nat)} {l : List Nat} {x : Nat} (hl : l ∈ stepL ((v :: t) :: T)) (hx : x ∈ l) : ∃ k ∈ (v :: t) :: T, x ∈ k := by
  rw [stepL_cons] at hl
  by_cases ht : 1 < (v :: t).length
  · rw [if_pos ht] at hl
    rcases List.mem_cons.1 hl with e | hl
    · rw [e] at hx
      exact ⟨v :: t, List.mem_cons_self .., List.mem_of_mem_drop hx⟩
    · exact ⟨l, List.mem_cons_of_mem _ hl, hx⟩
  · rw [if_neg ht] at hl
    exact ⟨l, List.mem_cons_of_mem _ hl, hx⟩
/-- The lists Ls, v taken out of t of them. -/
def Inn (Ls Lr : List (List Nat)) (v : Nat) (t : Nat) : Prop := Good Lr ∧ (∀ x, occ Ls x = occ Lr x + (if x = v then t else 0)) ∧ ∀ l ∈ Lr, ∀ x ∈ l, v ≤ x
theorem Inn.start {Ls : List (List Nat)} {v : Nat} (h : Good Ls) (hv : ∀ l ∈ Ls, ∀ x ∈ l, v ≤ x) : Inn Ls Ls v 0 := ⟨h, fun x => by simp, hv⟩
theorem Inn.step {Ls T : List (List Nat)} {v : Nat} {k : List Nat} {t : Nat} {Lr : List (List Nat)} (h : Inn Ls ((v :: k) :: T) v t) (hp : Lr.Perm (stepL ((v :: k) :: T))) : Inn Ls Lr v (t + 1) := by
  obtain ⟨h1, h2, h3⟩ := h
  refine ⟨(good_step h1).perm hp.symm, fun x => ?_, fun l hl x hx => ?_⟩
  · rw [h2 x, occ_step (h1 _ (List.mem_cons_self ..)).2 x, occ_perm hp x]
    by_cases e : x = v
    · simp [e]; omega
    · simp [e]
  · obtain ⟨m, hm, hxm⟩ := mem_step (hp.mem_iff.1 hl) hx
    exact h3 m hm x hxm
theorem Inn.perm {Ls Lr Lq : List (List Nat)} {v : Nat} {t : Nat} (h : Inn Ls Lr v t) (hp : Lr.Perm Lq) : Inn Ls Lq v t :=
  ⟨h.1.perm hp, fun x => by rw [h.2.1 x, occ_perm hp x], fun l hl => h.2.2 l (hp.mem_iff.2 hl)⟩
/-- What has come of the lists D, and what is left. -/
def Out (D : List (List Nat)) (pre : List (Nat × Nat)) (Ls : List (List Nat)) : Prop :=
  Good Ls ∧ (pre.map Prod.fst).Pairwise (· < ·) ∧ (∀ p ∈ pre, ∀ l ∈ Ls, ∀ x ∈ l, p.1 < x) ∧ (∀ x, (∀ p ∈ pre, p.1 < x) → occ Ls x = occ D x) ∧ (∀ p ∈ pre, p.2 = occ D p.1 ∧ 1 ≤ p.2) ∧ ∀ x, 0 < occ D x → (∃ p ∈ pre, p.1 = x) ∨ 0 < occ Ls x
theorem Out.start {D : List (List Nat)} (h : Good D) : Out D [] D := ⟨h, List.Pairwise.nil, fun p hp => by simp at hp, fun x _ => rfl, fun p hp => by simp at hp, fun x hx => Or.inr hx⟩
theorem Out.next {D Ls Lr : List (List Nat)} {pre : List (Nat × Nat)} {v : Nat} {t : Nat} (h : Out D pre Ls) (hi : Inn Ls Lr v t) (hv : 0 < occ Ls v) (hgt : ∀ l ∈ Lr, ∀ x ∈ l, v < x) : Out D (pre ++ [(v, t)]) Lr := by
  obtain ⟨h1, h2, h3, h4, h5, h6⟩ := h
  obtain ⟨i1, i2, i3⟩ := hi
  obtain ⟨l0, hl0, hv0⟩ := occ_pos.1 hv
  have hpv : ∀ p ∈ pre, p.1 < v := fun p hp => h3 p hp l0 hl0 v hv0
  have hz : occ Lr v = 0 := by
    by_cases e : occ Lr v = 0
    · exact e
    · obtain ⟨l, hl, hx⟩ := occ_pos.1 (Nat.pos_of_ne_zero e)
      have := hgt l hl v hx
      omega
  have ht : occ Ls v = t := by have := i2 v; simp at this; omega
  refine ⟨i1, ?_, ?_, ?_, ?_, ?_⟩
  · rw [List.map_append, List.pairwise_append]
    refine ⟨h2, by simp, fun a ha b hb => ?_⟩
    simp at hb
    subst hb
    obtain ⟨p, hp, rfl⟩ := List.mem_map.1 ha
    exact hpv p hp
  · intro p hp l hl x hx
    rcases List.mem_append.1 hp with hp | hp
    · exact Nat.lt_trans (hpv p hp) (hgt l hl x hx)
    · rw [List.mem_singleton] at hp
      subst hp
      exact hgt l hl x hx
  · intro x hx
    have a1 := h4 x (fun p hp => hx p (List.mem_append.2 (Or.inl hp)))
    have a2 := hx (v, t) (by simp)
    have a3 := i2 x
    dsimp only at a2
    rw [if_neg (by omega)] at a3
    omega
  · intro p hp
    rcases List.mem_append.1 hp with hp | hp
    · exact h5 p hp
    · rw [List.mem_singleton] at hp
      subst hp
      refine ⟨?_, by show 1 ≤ t; omega⟩
      show t = occ D v
      rw [← h4 v hpv, ht]
  · intro x hx
    rcases h6 x hx with ⟨p, hp, e⟩ | h7
    · exact Or.inl ⟨p, List.mem_append.2 (Or.inl hp), e⟩
    · by_cases e : x = v
      · exact Or.inl ⟨(v, t), by simp, e.symm⟩
      · right
        have := i2 x
        rw [if_neg e] at this
        omega
/-- All have come. -/
theorem Out.done {D : List (List Nat)} {pre : List (Nat × Nat)} (h : Out D pre []) : (pre.map Prod.fst).Pairwise (· < ·) ∧ (∀ p ∈ pre, p.2 = occ D p.1 ∧ 1 ≤ p.2) ∧ ∀ x, 0 < occ D x ↔ ∃ p ∈ pre, p.1 = x := by
  obtain ⟨h1, h2, h3, h4, h5, h6⟩ := h
  refine ⟨h2, h5, fun x => ⟨fun hx => ?_, fun hx => ?_⟩⟩
  · rcases h6 x hx with h7 | h7
    · exact h7
    · simp [occ] at h7
  · obtain ⟨p, hp, rfl⟩ := hx
    have := h5 p hp
    omega
/-- What stands in k of the lists. -/
def atl (k : Int) (pre : List (Nat × Nat)) : List Nat := (pre.filter fun p => decide (k ≤ (p.2 : Int))).map Prod.fst
theorem atl_snoc (k : Int) (pre : List (Nat × Nat)) (p : Nat × Nat) : atl k (pre ++ [p]) = atl k pre ++ (if k ≤ (p.2 : Int) then [p.1] else []) := by
  unfold atl
  rw [List.filter_append, List.map_append]
  congr 1
  by_cases e : k ≤ (p.2 : Int)
  · simp [e]
  · simp [e]
theorem atl_ok {D : List (List Nat)} {pre : List (Nat × Nat)} (h : Out D pre []) (k : Int) : Inc (atl k pre) ∧ ∀ x, x ∈ atl k pre ↔ (k ≤ (occ D x : Int) ∧ 0 < occ D x) := by
  obtain ⟨h1, h2, h3⟩ := h.done
  refine ⟨?_, fun x => ?_⟩
  · unfold atl
    exact h1.sublist (List.Sublist.map _ List.filter_sublist)
  · unfold atl
    simp only [List.mem_map, List.mem_filter, decide_eq_true_eq]
    constructor
    · rintro ⟨p, ⟨hp, hk⟩, rfl⟩
      have := h2 p hp
      exact ⟨by rw [← this.1]; exact hk, by omega⟩
    · rintro ⟨hk, hx⟩
      obtain ⟨p, hp, rfl⟩ := (h3 x).1 hx
      exact ⟨p, ⟨hp, by rw [(h2 p hp).1]; exact hk⟩, rfl⟩
end PtCnM
end Go.Proofs.Ythpfnajgbocpnaa
