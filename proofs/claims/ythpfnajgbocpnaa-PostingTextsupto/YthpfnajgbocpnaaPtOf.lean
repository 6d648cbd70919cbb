import Derived.Test.YthpfnajgbocpnaaPtSkp
import Derived.Test.YthpfnajgbocpnaaSgC
namespace Go.Proofs.Ythpfnajgbocpnaa
namespace Pt
open Go.RowKit Go.Sort Go.Lib
open PtMath (Inc setOf cnt)
set_option linter.unusedVariables false
set_option maxRecDepth 100000
open PtT (Rk TB en)
variable {T : PtT.Rk}

theorem row_of {w : World} {a : Option Addr} {l : List Nat} (h : NRow T w a l) : Row w a (l.map T.1) := fun i hi => by
  have hi' : i < l.length := by simpa using hi
  obtain ⟨b, off, e, h1⟩ := h i hi'
  refine ⟨b, off, e, ?_⟩
  rw [h1, List.getElem_map]
  rfl
theorem of_row {w : World} {a : Option Addr} {l : List Nat} (h : Row w a (l.map T.1)) : NRow T w a l := fun i hi => by
  obtain ⟨b, off, e, h1⟩ := h i (by simpa using hi)
  refine ⟨b, off, e, ?_⟩
  rw [h1, List.getElem_map]
  rfl
theorem iv_sv (l : List Nat) : sv (l.map T.1) = iv T l := by
  unfold sv iv
  rw [List.map_map]
  rfl
theorem own_of {w : World} {B : Nat} {v : Value} {l : List Nat} (h : OwnS w B v (l.map T.1)) : OwnI T w B v l := by
  unfold OwnS at h
  rw [iv_sv, List.length_map] at h
  exact h
theorem of_own {w : World} {B : Nat} {v : Value} {l : List Nat} (h : OwnI T w B v l) : OwnS w B v (l.map T.1) := by
  unfold OwnS
  rw [iv_sv, List.length_map]
  exact h
theorem below_drewN (B : Nat) (w : World) (q : Nat) : Below B w (w.drewN q) := ⟨rfl, rfl, rfl, Nat.le_refl _, fun _ _ => rfl⟩
theorem ownI_drewN {w : World} {B : Nat} {v : Value} {l : List Nat} (h : OwnI T w B v l) (q : Nat) : OwnI T (w.drewN q) B v l := ownI_below h (below_drewN _ _ _)
theorem of_any (a : Option Addr) (l : List Nat) (c : Nat) (w : World) (hr : NRow T w a l) (hl : l.length ≤ 4194304) :
    Calls Try.prog 5 #[.slice a l.length c] w fun e w' => ∃ v, e = .returned v ∧ OwnI T w' w.heap.size v (setOf l) ∧ Below w.heap.size w w' := by
  have h := Go.Proofs.Ythpfnajgbocpnaa.of_any a (l.map T.1) c w (row_of hr) (by rw [List.length_map]; exact hl)
  rw [List.length_map] at h
  refine h.mono ?_
  rintro e w' ⟨v, rfl, hO, hb⟩
  rw [PtT.setOf_map] at hO
  exact ⟨v, rfl, own_of hO, hb⟩
end Pt
end Go.Proofs.Ythpfnajgbocpnaa
