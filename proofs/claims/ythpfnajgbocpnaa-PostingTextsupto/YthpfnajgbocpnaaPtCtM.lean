import Derived.Test.YthpfnajgbocpnaaPtSet
namespace Go.Proofs.Ythpfnajgbocpnaa
namespace Pt
open Go.RowKit Go.Sort Go.Lib
open PtMath (Inc setOf cnt)
open PtHpM (Hd)
open PtCnM (occ)
set_option linter.unusedVariables false
set_option maxRecDepth 100000
open PtT (Rk TB en)
variable {Tk : PtT.Rk}

/-- What stands in k of the lists or more. -/
def aL (D : List (List Nat)) (k : Int) : List Nat := (setOf D.flatten).filter fun x => decide (k ≤ (occ D x : Int))
theorem occ_flat (D : List (List Nat)) (x : Nat) : x ∈ D.flatten ↔ 0 < occ D x := by rw [PtCnM.occ_pos, List.mem_flatten]
theorem aL_is (D : List (List Nat)) (k : Int) : AtlIs k D (aL D k) := by
  refine ⟨List.Pairwise.sublist List.filter_sublist (PtMath.setOf_inc _), fun x => ?_⟩
  unfold aL
  rw [List.mem_filter, PtMath.setOf_mem, occ_flat, decide_eq_true_eq]
  exact And.comm
theorem atl_uniq {k : Int} {D : List (List Nat)} {M : List Nat} (h : AtlIs k D M) : M = aL D k :=
  PtMath.inc_eq _ _ h.1 (aL_is D k).1 (fun x => by rw [h.2, (aL_is D k).2])
theorem aL_eq {k : Int} {D : List (List Nat)} {M : List Nat} (h : Inc M) (e : ∀ x, x ∈ M ↔ (k ≤ (occ D x : Int) ∧ 0 < occ D x)) : M = aL D k := atl_uniq ⟨h, e⟩
theorem aL_len (D : List (List Nat)) (k : Int) : (aL D k).length ≤ tot D := by
  have h1 : (aL D k).length ≤ (setOf D.flatten).length := List.length_filter_le _ _
  have h2 := PtMath.setOf_len D.flatten
  have h3 : D.flatten.length = tot D := by rw [List.length_flatten]; rfl
  omega
theorem occ_le (D : List (List Nat)) (x : Nat) : occ D x ≤ D.length := List.countP_le_length
theorem aL_none (D : List (List Nat)) (k : Int) (h : (D.length : Int) < k) : aL D k = [] := by
  refine List.eq_nil_iff_forall_not_mem.2 (fun x hx => ?_)
  have := ((aL_is D k).2 x).1 hx
  have := occ_le D x
  omega
theorem aL_all (D : List (List Nat)) (hD : D ≠ []) (x : Nat) : x ∈ aL D (D.length : Int) ↔ ∀ l ∈ D, x ∈ l := by
  rw [(aL_is D _).2 x]
  have h1 : occ D x = D.length ↔ ∀ l ∈ D, x ∈ l := by
    unfold PtCnM.occ
    rw [List.countP_eq_length]
    simp
  have h2 := occ_le D x
  rw [← h1]
  have h3 : 0 < D.length := List.length_pos_iff.2 hD
  constructor
  · intro h; omega
  · intro h; omega
end Pt
end Go.Proofs.Ythpfnajgbocpnaa
