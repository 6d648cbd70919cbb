import Derived.Test.YtnjodplnbfmjeaaGreatDoorBytes
import Derived.Deep.DeepCutAuto
import Derived.Deep.RegionHeld3
import Derived.Test.YtnjodplnbfmjeaaGreatDoorInfo
import Derived.Test.YtnjodplnbfmjeaaGreatDoorMtEqW
namespace Go.Proofs.YtnjodplnbfmjeaaGreatDoor
open Go.RowKit
set_option linter.unusedVariables false
set_option linter.unusedSimpArgs false
namespace Mt
/-- A syntax of no cells, as an interface value's own. -/
abbrev tmX : Value := .agg #[]

theorem synNo (w : World) : Calls Tryz.prog 15 #[.int .i64 0] w fun e w' => e = .returned (.iface 71 tmX) ∧ w' = w := by
  go_enter Tryz.func15, Tryz.ntmps15
  go_wp2_with fail
  go_ret
  exact ⟨rfl, rfl⟩
set_option maxRecDepth 100000 in
theorem noAt : SynAt 71 tmX 263 := fun n W => by kernel_rfl
set_option maxRecDepth 100000 in
theorem noWalked : WalkedAt 263 := fun args W => by kernel_rfl
theorem noN_any (v : ByteArray) (W : World) : NormAt tmX 263 v ⟨#[]⟩ false W := by
  have hB : Hid (Below W.heap.size W (W.alloc (.cells #[] 71))) := (Below.refl _ _).alloc (Nat.le_refl _) _
  show Calls _ _ _ _ _
  go_enter Tryz.func263, Tryz.ntmps263
  go_wp2_with fail
  go_ret2
  exact ⟨rfl, by first | exact hB.out | exact Below.refl _ _⟩
theorem synTm (w : World) : Calls Tryz.prog 15 #[.int .i64 12] w fun e w' => e = .returned (.iface 78 tmX) ∧ w' = w := by
  go_enter Tryz.func15, Tryz.ntmps15
  go_wp2_with fail
  go_ret
  exact ⟨rfl, rfl⟩
set_option maxRecDepth 100000 in
theorem tmAt : SynAt 78 tmX 272 := fun n W => by kernel_rfl
set_option maxRecDepth 100000 in
theorem tmWalked : WalkedAt 272 := fun args W => by kernel_rfl
/-- The last day of a month. -/
def leap (y : Int) : Bool := ((y.tmod 4 == 0) && !(y.tmod 100 == 0)) || (y.tmod 400 == 0)
def lastD (y mo : Int) : Int := if mo = 2 then (if leap y then 29 else 28) else if mo = 4 ∨ mo = 6 ∨ mo = 9 ∨ mo = 11 then 30 else 31
theorem lastDay_any (y mo : Int) (w : World) : Calls Tryz.prog 277 #[.int .i64 y, .int .i64 mo] w fun e w' => e = .returned (.int .i64 (lastD y mo)) ∧ w' = w := by
  by_cases h2 : mo = 2
  · subst h2
    obtain ⟨r, hr⟩ : ∃ r, lastD y 2 = r := ⟨_, rfl⟩
    have hl : (if leap y then (29 : Int) else 28) = r := hr
    rw [hr]
    have hl' : Hid ((if leap y then (29 : Int) else 28) = r) := hl
    clear hl hr
    have key : ∀ x : Int, x = 0 ∨ (¬ x = 0 ∧ (x == 0) = false) := fun x => by
      by_cases h : x = 0
      · exact Or.inl h
      · exact Or.inr ⟨h, beq_eq_false_iff_ne.2 h⟩
    rcases key (y.tmod 4) with p4 | ⟨p4, q4⟩ <;> rcases key (y.tmod 100) with p100 | ⟨p100, q100⟩ <;> rcases key (y.tmod 400) with p400 | ⟨p400, q400⟩ <;> (
      clear key
      go_enter Tryz.func277, Tryz.ntmps277
      go_wp2_with fail
      go_ret
      exact ⟨by rw [← hl'.out]; unfold leap; simp [p4, p100, p400], rfl⟩)
  · by_cases h3 : mo = 4 ∨ mo = 6 ∨ mo = 9 ∨ mo = 11
    · have hl : Hid (lastD y mo = 30) := by unfold Hid lastD; rw [if_neg h2, if_pos h3]
      rw [hl.out]
      rcases h3 with rfl | rfl | rfl | rfl <;> (
        go_enter Tryz.func277, Tryz.ntmps277
        go_wp2_with fail
        go_ret
        exact ⟨rfl, rfl⟩)
    · have hl : Hid (lastD y mo = 31) := by unfold Hid lastD; rw [if_neg h2, if_neg h3]
      rw [hl.out]
      have n4 : (mo == 4) = false := beq_eq_false_iff_ne.2 (fun e => h3 (Or.inl e))
      have n6 : (mo == 6) = false := beq_eq_false_iff_ne.2 (fun e => h3 (Or.inr (Or.inl e)))
      have n9 : (mo == 9) = false := beq_eq_false_iff_ne.2 (fun e => h3 (Or.inr (Or.inr (Or.inl e))))
      have n11 : (mo == 11) = false := beq_eq_false_iff_ne.2 (fun e => h3 (Or.inr (Or.inr (Or.inr e))))
      have n2 : (mo == 2) = false := beq_eq_false_iff_ne.2 h2
      clear h2 h3
      go_enter Tryz.func277, Tryz.ntmps277
      go_wp2_with fail
      go_ret
      exact ⟨rfl, rfl⟩
end Mt
end Go.Proofs.YtnjodplnbfmjeaaGreatDoor
