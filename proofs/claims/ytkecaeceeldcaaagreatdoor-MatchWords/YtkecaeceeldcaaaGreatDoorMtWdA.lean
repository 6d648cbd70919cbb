import Derived.Test.YtkecaeceeldcaaaGreatDoorMtEqO
import Derived.Test.YtkecaeceeldcaaaGreatDoorBytes
import Derived.Test.YtkecaeceeldcaaaGreatDoorAtShelf
import Derived.Deep.DeepCutAuto
namespace Go.Proofs.YtkecaeceeldcaaaGreatDoor
open Go.RowKit
set_option linter.unusedVariables false
set_option linter.unusedSimpArgs false
namespace Wd

/-- A row of texts from a block's beginning. -/
def Rw (W : World) (g : Nat) (l : List (List UInt8)) : Prop := ∀ (i : Nat) (h : i < l.length), W.cell? ⟨g, i, none⟩ = some (.string (S l[i]))
theorem eqS (a b : List UInt8) : ((S a).toList == (S b).toList) = decide (a = b) := by
  rw [Bool.eq_iff_iff, Lib.toList_data, Lib.toList_data, S_l, S_l]
  simp
set_option maxRecDepth 100000 in
set_option maxHeartbeats 1000000 in
theorem index_any (g c : Nat) (l : List (List UInt8)) (v : List UInt8) (w : World) (hr : Rw w g l) (hl : l.length ≤ 4194304) :
    Calls Tryz.prog 65 #[.slice (some ⟨g, 0, none⟩) l.length c, .string (S v)] w fun e w' => (∃ k : Int, e = .returned (.int .i64 k) ∧ decide ((0 : Int) ≤ k) = decide (v ∈ l)) ∧ w' = w := by
  obtain ⟨n, hn⟩ : ∃ n, l.length = n := ⟨_, rfl⟩
  have hr' : Hid (Rw w g l ∧ l.length = n ∧ n ≤ 4194304) := ⟨hr, hn, by omega⟩
  rw [hn]
  clear hr hn hl
  go_enter Tryz.func65, Tryz.ntmps65
  go_wp2_with fail
  go_loopw [8] (fun iv wr => ∃ i : Nat, i ≤ n ∧ iv = .int .i64 (i : Int) ∧ Hid (wr = w) ∧ Hid (∀ j (h : j < l.length), j < i → ¬ l[j] = v)) (fun iv _ => n - (intOf iv).toNat)
  case atStart => exact ⟨0, Nat.zero_le _, rfl, rfl, fun j _ h => absurd h (Nat.not_lt_zero _)⟩
  case round =>
    obtain ⟨i, hi, rfl, hw, hno⟩ := hrel
    obtain rfl := hw.out
    clear hw
    have i0 : (0 : Int) ≤ (i : Int) := Int.natCast_nonneg _
    by_cases hlt : i < n
    · have i1 : (i : Int) < (n : Int) := Int.ofNat_lt.2 hlt
      have hil : i < l.length := by rw [hr'.out.2.1]; exact hlt
      have hc := hr'.out.1 i hil
      have he := eqS v l[i]
      by_cases hv : v = l[i]
      · rw [decide_eq_true hv] at he
        have hm : Hid (v ∈ l) := by unfold Hid; rw [hv]; exact List.getElem_mem hil
        generalize S l[i] = T at *
        generalize S v = V at *
        clear hno hv hil hlt hi
        go_wp2_with fail
        go_ret
        exact ⟨⟨_, rfl, by rw [decide_eq_true hm.out]; exact decide_eq_true i0⟩, rfl⟩
      · rw [decide_eq_false hv] at he
        have hno' : Hid (∀ j (h : j < l.length), j < i + 1 → ¬ l[j] = v) := fun j h hj e => by
          by_cases q : j = i
          · subst q; exact hv e.symm
          · exact hno.out j h (by omega) e
        have hlt' : Hid (i + 1 ≤ n) := hlt
        have i4 : (i : Int) < 4194304 := by have := hr'.out.2.2; omega
        have hwr : True := trivial
        generalize S l[i] = T at *
        generalize S v = V at *
        clear hno hv hil hlt hi
        go_wp2_with fail
        go_roundw
        case rel => exact ⟨i + 1, hlt'.out, by first | (simp; done) | (simp; exact hwr), by first | exact rfl | trivial, hno'⟩
        case measure => have h := hlt'.out; simp [intOf, hwr]; omega
    · have hin : i = n := by omega
      have hm : Hid (¬ v ∈ l) := fun h => by
        obtain ⟨j, hj, e⟩ := List.mem_iff_getElem.1 h
        exact hno.out j hj (by rw [hr'.out.2.1] at hj; omega) e
      subst hin
      clear hno hlt
      go_wp2_with fail
      go_ret
      exact ⟨⟨_, rfl, by rw [decide_eq_false hm.out]; rfl⟩, rfl⟩
set_option maxRecDepth 100000 in
theorem contains_any (g c : Nat) (l : List (List UInt8)) (v : List UInt8) (w : World) (hr : Rw w g l) (hl : l.length ≤ 4194304) :
    Calls Tryz.prog 52 #[.slice (some ⟨g, 0, none⟩) l.length c, .string (S v)] w fun e w' => e = .returned (.bool (decide (v ∈ l))) ∧ w' = w := by
  have hI : Hid (Calls Tryz.prog 65 #[.slice (some ⟨g, 0, none⟩) l.length c, .string (S v)] w fun e w' => (∃ k : Int, e = .returned (.int .i64 k) ∧ decide ((0 : Int) ≤ k) = decide (v ∈ l)) ∧ w' = w) := index_any g c l v w hr hl
  generalize l.length = n at *
  generalize decide (v ∈ l) = b at *
  clear hr hl
  go_enter Tryz.func52, Tryz.ntmps52
  go_wp2_with fail
  refine hI.out.mono ?_
  rintro e w1 ⟨⟨k, rfl, hk⟩, hww⟩
  obtain rfl := hww.symm
  clear hww hI
  go_wp2_with fail
  go_ret
  exact ⟨by first | rfl | (rw [← hk]; rfl), rfl⟩
end Wd
end Go.Proofs.YtkecaeceeldcaaaGreatDoor
