import Derived.Test.YtdbhcemmaahemaaPgSet
namespace Go.Proofs.Ytdbhcemmaahemaa
open Go.RowKit Go.Sort Go.Lib
open PgMath (Inc setOf cnt)
open PgHpM (Hd)
open PgCnM (occ)
set_option linter.unusedVariables false
set_option maxRecDepth 100000

/-- What stands in k of the lists or more. -/
def aL (D : List (List Int)) (k : Int) : List Int := (setOf D.flatten).filter fun x => decide (k ≤ (occ D x : Int))
theorem occ_flat (D : List (List Int)) (x : Int) : x ∈ D.flatten ↔ 0 < occ D x := by rw [PgCnM.occ_pos, List.mem_flatten]
theorem aL_is (D : List (List Int)) (k : Int) : AtlIs k D (aL D k) := by
  refine ⟨List.Pairwise.sublist List.filter_sublist (PgMath.setOf_inc _), fun x => ?_⟩
  unfold aL
  rw [List.mem_filter, PgMath.setOf_mem, occ_flat, decide_eq_true_eq]
  exact And.comm
theorem atl_uniq {k : Int} {D : List (List Int)} {M : List Int} (h : AtlIs k D M) : M = aL D k :=
  PgMath.inc_eq _ _ h.1 (aL_is D k).1 (fun x => by rw [h.2, (aL_is D k).2])
theorem aL_eq {k : Int} {D : List (List Int)} {M : List Int} (h : Inc M) (e : ∀ x, x ∈ M ↔ (k ≤ (occ D x : Int) ∧ 0 < occ D x)) : M = aL D k := atl_uniq ⟨h, e⟩
theorem aL_len (D : List (List Int)) (k : Int) : (aL D k).length ≤ tot D := by
  have h1 : (aL D k).length ≤ (setOf D.flatten).length := List.length_filter_le _ _
  have h2 := PgMath.setOf_len D.flatten
  have h3 : D.flatten.length = tot D := by rw [List.length_flatten]; rfl
  omega
theorem occ_le (D : List (List Int)) (x : Int) : occ D x ≤ D.length := List.countP_le_length
theorem aL_none (D : List (List Int)) (k : Int) (h : (D.length : Int) < k) : aL D k = [] := by
  refine List.eq_nil_iff_forall_not_mem.2 (fun x hx => ?_)
  have := ((aL_is D k).2 x).1 hx
  have := occ_le D x
  omega
theorem aL_all (D : List (List Int)) (hD : D ≠ []) (x : Int) : x ∈ aL D (D.length : Int) ↔ ∀ l ∈ D, x ∈ l := by
  rw [(aL_is D _).2 x]
  have h1 : occ D x = D.length ↔ ∀ l ∈ D, x ∈ l := by
    unfold PgCnM.occ
    rw [List.countP_eq_length]
    simp
  have h2 := occ_le D x
  rw [← h1]
  have h3 : 0 < D.length := List.length_pos_iff.2 hD
  constructor
  · intro h; omega
  · intro h; omega
theorem occ_snoc (A : List (List Int)) (l : List Int) (x : Int) : occ (A ++ [l]) x = occ A x + (if x ∈ l then 1 else 0) := by
  unfold PgCnM.occ
  rw [List.countP_append]
  simp [List.countP_cons]
/-- One list more. -/
theorem aL_snoc (A : List (List Int)) (l : List Int) (k : Int) (hk : 2 ≤ k) (x : Int) : x ∈ aL (A ++ [l]) k ↔ (x ∈ aL A k ∨ (x ∈ aL A (k - 1) ∧ x ∈ l)) := by
  rw [(aL_is _ _).2, (aL_is _ _).2, (aL_is _ _).2, occ_snoc]
  by_cases h : x ∈ l
  · simp only [h, if_true, and_true]
    omega
  · simp only [h, if_false, and_false, or_false]
    omega
/-- How many there are, from 1 on. -/
def sA (D : List (List Int)) (j : Nat) : Nat := ((List.range j).map fun (i : Nat) => (aL D ((i : Int) + 1)).length).sum
theorem sA_succ (D : List (List Int)) (j : Nat) : sA D (j + 1) = sA D j + (aL D ((j : Int) + 1)).length := by
  unfold sA
  rw [List.range_succ, List.map_append, List.sum_append]
  simp
theorem sA_le (D : List (List Int)) : ∀ j, sA D j ≤ j * tot D := by
  intro j
  induction j with
  | zero => simp [sA]
  | succ j ih => rw [sA_succ, Nat.add_mul, Nat.one_mul]; have := aL_len D ((j : Int) + 1); omega
theorem cnt_upto (f : Nat) : ∀ j, ((List.range j).map fun (i : Nat) => if ((i : Int) + 1 ≤ (f : Int)) then 1 else 0).sum = min f j := by
  intro j
  induction j with
  | zero => simp
  | succ j ih =>
    rw [List.range_succ, List.map_append, List.sum_append, ih]
    simp only [List.map_cons, List.map_nil, List.sum_cons, List.sum_nil]
    by_cases e : ((j : Int) + 1 ≤ (f : Int))
    · rw [if_pos e]; omega
    · rw [if_neg e]; omega
theorem sum_add (j : Nat) (f g : Nat → Nat) : ((List.range j).map fun i => f i + g i).sum = ((List.range j).map f).sum + ((List.range j).map g).sum := by
  induction j with
  | zero => simp
  | succ j ih => rw [List.range_succ]; simp only [List.map_append, List.sum_append, ih, List.map_cons, List.map_nil, List.sum_cons, List.sum_nil]; omega
theorem dbl1 (o : Int → Nat) (j : Nat) : ∀ U : List Int, ((List.range j).map fun (i : Nat) => (U.filter fun x => decide ((i : Int) + 1 ≤ (o x : Int))).length).sum = (U.map fun x => min (o x) j).sum := by
  intro U
  induction U with
  | nil =>
    simp only [List.filter_nil, List.length_nil, List.map_nil, List.sum_nil]
    induction j with
    | zero => rfl
    | succ j ih => rw [List.range_succ, List.map_append, List.sum_append, ih]; rfl
  | cons y U ih =>
    rw [List.map_cons, List.sum_cons, ← ih, ← cnt_upto (o y) j, ← sum_add]
    congr 1
    apply List.map_congr_left
    intro i _
    by_cases e : ((i : Int) + 1 ≤ (o y : Int))
    · simp [e]; omega
    · simp [e]
theorem dbl2 (D : List (List Int)) : ∀ U : List Int, (D.map fun l => (U.filter fun x => decide (x ∈ l)).length).sum = (U.map fun x => occ D x).sum := by
  intro U
  induction U with
  | nil =>
    simp only [List.filter_nil, List.length_nil, List.map_nil, List.sum_nil]
    induction D with
    | nil => rfl
    | cons l D ih => simp [ih]
  | cons y U ih =>
    rw [List.map_cons, List.sum_cons, ← ih]
    clear ih
    induction D with
    | nil => rfl
    | cons l D ih =>
      simp only [List.map_cons, List.sum_cons, PgCnM.occ_cons, ih]
      by_cases e : y ∈ l
      · simp [e]; omega
      · simp [e]; omega
def sO (D : List (List Int)) : Nat := (D.map fun l => (setOf l).length).sum
/-- The numbers of elements over all k add up to those of the lists. -/
theorem sums (D : List (List Int)) : sA D D.length = sO D := by
  have h1 := dbl1 (occ D) D.length (setOf D.flatten)
  have h2 := dbl2 D (setOf D.flatten)
  have h3 : ((setOf D.flatten).map fun x => min (occ D x) D.length) = (setOf D.flatten).map fun x => occ D x := by
    apply List.map_congr_left
    intro x _
    exact Nat.min_eq_left (occ_le D x)
  have h4 : (D.map fun l => ((setOf D.flatten).filter fun x => decide (x ∈ l)).length) = D.map fun l => (setOf l).length := by
    apply List.map_congr_left
    intro l hl
    congr 1
    refine PgMath.inc_eq _ _ (List.Pairwise.sublist List.filter_sublist (PgMath.setOf_inc _)) (PgMath.setOf_inc _) (fun x => ?_)
    rw [List.mem_filter, PgMath.setOf_mem, PgMath.setOf_mem, List.mem_flatten, decide_eq_true_eq]
    constructor
    · exact fun h => h.2
    · exact fun h => ⟨⟨l, hl, h⟩, h⟩
  unfold sA aL sO
  rw [h1, h3, ← h2, h4]
theorem sO_take (D : List (List Int)) (j : Nat) (h : j < D.length) : sO (D.take (j + 1)) = sO (D.take j) + (setOf D[j]).length := by
  unfold sO
  rw [List.take_succ_eq_append_getElem h, List.map_append, List.sum_append]
  simp
theorem sO_le (D : List (List Int)) (j : Nat) : sO (D.take j) ≤ tot D := by
  have h1 : ∀ E : List (List Int), sO E ≤ tot E := fun E => by
    unfold sO tot
    induction E with
    | nil => simp
    | cons l E ih => simp only [List.map_cons, List.sum_cons]; have := PgMath.setOf_len l; omega
  have h2 : tot (D.take j) ≤ tot D := by
    have e : tot D = tot (D.take j) + tot (D.drop j) := by
      unfold tot
      rw [← List.sum_append, ← List.map_append, List.take_append_drop]
    omega
  have := h1 (D.take j)
  omega
end Go.Proofs.Ytdbhcemmaahemaa
