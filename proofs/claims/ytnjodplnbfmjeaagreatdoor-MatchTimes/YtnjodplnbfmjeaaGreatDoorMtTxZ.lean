import Derived.Test.YtnjodplnbfmjeaaGreatDoorMtTxA
import Derived.Test.YtnjodplnbfmjeaaGreatDoorMtTwEA0
import Derived.Test.YtnjodplnbfmjeaaGreatDoorMtTwEB0
import Derived.Test.YtnjodplnbfmjeaaGreatDoorMtTwEB1
import Derived.Test.YtnjodplnbfmjeaaGreatDoorMtTwEC1
namespace Go.Proofs.YtnjodplnbfmjeaaGreatDoor
open Go.RowKit
set_option linter.unusedVariables false
set_option linter.unusedSimpArgs false
namespace Tc
open Mt

theorem zone_pack {y mo d m : Nat} {z : Int} (h : WhB y mo d m z) : ∃ l, Is l (nV y mo d m) ∧ ∀ w : World, Hid (Calls Tryz.prog 5 #[whV (y : Int) (mo : Int) (d : Int) (m : Int) z] w fun e w' => e = .returned (.string (S l)) ∧ Below w.heap.size w w') := by
  have hB := h
  obtain ⟨hy, hmo, hd, hm, hz⟩ := h
  by_cases hs : (m : Int) + z < 0
  · obtain ⟨m', hm'⟩ : ∃ m' : Nat, (m' : Int) = (m : Int) + z + 1440 := ⟨((m : Int) + z + 1440).toNat, by omega⟩
    obtain ⟨d', hd'⟩ : ∃ d' : Nat, (d' : Int) = (d : Int) - 1 := ⟨d - 1, by omega⟩
    have hz' : z < 0 := by omega
    obtain ⟨za, hza⟩ : ∃ za : Nat, (za : Int) = -z := ⟨(-z).toNat, by omega⟩
    exact ⟨_, is_zone false hB (by omega) (by rw [if_neg (by simp)]; omega) (by omega) (Or.inl ⟨hs, hd', hm'⟩), fun w => zoneA0 y mo d m d' m' za z w hy (by omega) (by omega) (by omega) hm (by omega) (by omega) hs hd' hm' hz' hza⟩
  · by_cases hb : (m : Int) + z < 1440
    · obtain ⟨m', hm'⟩ : ∃ m' : Nat, (m' : Int) = (m : Int) + z := ⟨((m : Int) + z).toNat, by omega⟩
      by_cases hz' : z < 0
      · obtain ⟨za, hza⟩ : ∃ za : Nat, (za : Int) = -z := ⟨(-z).toNat, by omega⟩
        exact ⟨_, is_zone false hB (by omega) (by rw [if_neg (by simp)]; omega) (by omega) (Or.inr (Or.inl ⟨by omega, hb, rfl, hm'⟩)), fun w => zoneB0 y mo d m d m' za z w hy (by omega) (by omega) (by omega) hm (by omega) (by omega) ⟨by omega, hb⟩ rfl hm' hz' hza⟩
      · obtain ⟨za, hza⟩ : ∃ za : Nat, (za : Int) = z := ⟨z.toNat, by omega⟩
        exact ⟨_, is_zone true hB (by omega) (by rw [if_pos rfl]; omega) (by omega) (Or.inr (Or.inl ⟨by omega, hb, rfl, hm'⟩)), fun w => zoneB1 y mo d m d m' za z w hy (by omega) (by omega) (by omega) hm (by omega) (by omega) ⟨by omega, hb⟩ rfl hm' (by omega) hza⟩
    · obtain ⟨m', hm'⟩ : ∃ m' : Nat, (m' : Int) = (m : Int) + z - 1440 := ⟨((m : Int) + z - 1440).toNat, by omega⟩
      obtain ⟨za, hza⟩ : ∃ za : Nat, (za : Int) = z := ⟨z.toNat, by omega⟩
      exact ⟨_, is_zone true hB (by omega) (by rw [if_pos rfl]; omega) (by omega) (Or.inr (Or.inr ⟨by omega, rfl, hm'⟩)), fun w => zoneC1 y mo d m (d + 1) m' za z w hy (by omega) (by omega) (by omega) hm (by omega) (by omega) (by omega) (by omega) hm' (by omega) hza⟩
end Tc
end Go.Proofs.YtnjodplnbfmjeaaGreatDoor
