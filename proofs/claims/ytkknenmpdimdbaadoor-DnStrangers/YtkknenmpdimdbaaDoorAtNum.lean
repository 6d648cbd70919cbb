import Derived.Test.YtkknenmpdimdbaaDoorAtIdx
namespace Go.Proofs.YtkknenmpdimdbaaDoor
open Go.RowKit

def SUP : List Int := [0, 0, 0, 0, 2, 2, 0, 2, 2, 2, 0, 2, 2, 2, 0, 0, 0, 0, 0, 0, 0, 0, 0, 0, 16, 0, 3, 3, 3, 3, 0, 2, 2, 2, 0, 0, 8, 9, 11, 12, 0, 0, 0, 0, 0, 0, 0, 0, 0, 0, 0, 0, 0, 0, 0, 0, 0, 0, 0, 0, 0, 0]
def SYN : List Int := [11, 10, 1, 10, 1, 1, 1, 1, 1, 1, 1, 1, 1, 1, 1, 1, 13, 1, 1, 1, 6, 6, 5, 5, 13, 1, 10, 10, 10, 10, 9, 1, 1, 1, 1, 1, 1, 1, 1, 1, 1, 3, 1, 10, 6, 10, 3, 6, 6, 1, 1, 7, 7, 4, 4, 2, 12, 12, 10, 10, 8, 14]
def USG : List Int := [0, 0, 0, 0, 0, 0, 0, 0, 0, 0, 0, 0, 0, 0, 0, 0, 0, 0, 0, 0, 0, 0, 0, 0, 0, 0, 0, 0, 0, 0, 0, 0, 0, 0, 0, 0, 0, 0, 0, 0, 0, 0, 0, 0, 0, 0, 0, 0, 0, 0, 0, 0, 0, 0, 0, 0, 1, 1, 1, 1, 1, 0]
def KND : List (List Int) := [[-1, 11, 0], [-1, 10, 0], [-1, 1, 0], [-1, 10, 0], [2, 1, 0], [2, 1, 0], [-1, 1, 0], [2, 1, 0], [2, 1, 0], [2, 1, 0], [-1, 1, 0], [2, 1, 0], [2, 1, 0], [2, 1, 0], [-1, 1, 0], [-1, 1, 0], [-1, 13, 0], [-1, 1, 0], [-1, 1, 0], [-1, 1, 0], [-1, 6, 0], [-1, 6, 0], [-1, 5, 0], [-1, 5, 0], [16, 13, 0], [-1, 1, 0], [3, 10, 0], [3, 10, 0], [3, 10, 0], [3, 10, 0], [-1, 9, 0], [2, 1, 0], [2, 1, 0], [2, 1, 0], [-1, 1, 0], [-1, 1, 0], [8, 1, 0], [9, 1, 0], [11, 1, 0], [12, 1, 0], [-1, 1, 0], [-1, 3, 0], [-1, 1, 0], [-1, 10, 0], [-1, 6, 0], [-1, 10, 0], [-1, 3, 0], [-1, 6, 0], [-1, 6, 0], [-1, 1, 0], [-1, 1, 0], [-1, 7, 0], [-1, 7, 0], [-1, 4, 0], [-1, 4, 0], [-1, 2, 0], [-1, 12, 1], [-1, 12, 1], [-1, 10, 1], [-1, 10, 1], [-1, 8, 1], [-1, 14, 0]]
theorem num_fit : (List.finRange 62).all (fun i => decide (0 ≤ SUP.getD i.1 0 ∧ SUP.getD i.1 0 < 62 ∧ (KND.getD i.1 []).getD 0 0 = (if SUP.getD i.1 0 = 0 then -1 else SUP.getD i.1 0) ∧ (KND.getD i.1 []).getD 1 0 = SYN.getD i.1 0 ∧ (KND.getD i.1 []).getD 2 0 = USG.getD i.1 0)) = true := by kernel_rfl
theorem num_at (i : Fin 62) : 0 ≤ SUP.getD i.1 0 ∧ SUP.getD i.1 0 < 62 ∧ (KND.getD i.1 []).getD 0 0 = (if SUP.getD i.1 0 = 0 then -1 else SUP.getD i.1 0) ∧ (KND.getD i.1 []).getD 1 0 = SYN.getD i.1 0 ∧ (KND.getD i.1 []).getD 2 0 = USG.getD i.1 0 :=
  of_decide_eq_true (List.all_eq_true.1 num_fit i (List.mem_finRange i))
/-- The number of the row above, and its name. -/
def supI (i : Fin 62) : Nat := (SUP.getD i.1 0).toNat
theorem supI_lt (i : Fin 62) : supI i < 62 := by
  have := num_at i
  unfold supI
  omega
theorem supI_eq (i : Fin 62) : SUP.getD i.1 0 = (supI i : Int) := by
  have := num_at i
  unfold supI
  omega
def supN (i : Fin 62) : ByteArray := if supI i = 0 then ⟨#[]⟩ else (rowL ⟨supI i, supI_lt i⟩).1
/-- What a row is told as. -/
def RowIs (W : World) (B : Nat) (i : Fin 62) (v : Value) : Prop :=
  ∃ al, v = .agg #[.string (rowL i).1, al, .string (rowL i).2.2, .string (supN i), .int .i64 (SYN.getD i.1 0), .int .i64 (USG.getD i.1 0)] ∧
    (((rowL i).2.1.toList = [] ∧ al = .slice none 0 0) ∨ (¬ (rowL i).2.1.toList = [] ∧ ∃ g c, B ≤ g ∧ al = .slice (some ⟨g, 0, none⟩) 1 c ∧ W.cell? ⟨g, 0, none⟩ = some (.string (rowL i).2.1)))
end Go.Proofs.YtkknenmpdimdbaaDoor
