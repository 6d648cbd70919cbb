import Derived.Test.YthpfnajgbocpnaaPtRef
namespace Go.Proofs.Ythpfnajgbocpnaa
namespace Pt
open Go.RowKit Go.Sort Go.Lib
open PtMath (Inc setOf cnt)
set_option linter.unusedVariables false
set_option maxRecDepth 100000
open PtT (Rk TB en)
variable {Tk : PtT.Rk}

/-- A cursor of the reference. -/
theorem cnt_drop {S : List Nat} (h : Inc S) (x : Nat) (k : Nat) : cnt (S.drop k) x = cnt S x - k := by
  obtain ⟨h1, h2⟩ := PtMath.cnt_split S x h
  have hl := PtMath.cnt_len S x
  refine PtMath.cnt_at (S.drop k) x (cnt S x - k) (by rw [List.length_drop]; omega) (fun j hj hjk => ?_) (PtMath.inc_drop h k) (fun hh => ?_)
  · rw [List.getElem_drop]
    rw [List.length_drop] at hj
    exact h1 (k + j) (by omega) (by omega)
  · rw [List.getElem_drop]
    rw [List.length_drop] at hh
    exact h2 (k + (cnt S x - k)) (by omega) (by omega)
theorem ownI_but {w w' : World} {b B : Nat} {v : Value} {l : List Nat} (h : OwnI Tk w B v l) (hb : ButB b w w') (hB : b < B) : OwnI Tk w' B v l := by
  rcases h with ⟨h1, ⟨rfl, h2⟩ | ⟨g, cap, cur, rfl, h3, h4, h5⟩⟩
  · exact ⟨h1, Or.inl ⟨rfl, h2⟩⟩
  · exact ⟨h1, Or.inr ⟨g, cap, cur, rfl, h3, by rw [hb.2.2.2.2 g (by omega)]; exact h4, h5⟩⟩
end Pt
end Go.Proofs.Ythpfnajgbocpnaa
