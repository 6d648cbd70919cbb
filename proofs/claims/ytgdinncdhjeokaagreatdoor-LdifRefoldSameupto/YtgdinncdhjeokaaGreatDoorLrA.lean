import Derived.Test.YtgdinncdhjeokaaGreatDoorLrOwn
import Derived.Test.YtgdinncdhjeokaaGreatDoorAtParse
namespace Go.Proofs.YtgdinncdhjeokaaGreatDoor
namespace Lr
open Go.RowKit
open TextMath (b64 fold)
set_option linter.unusedVariables false
set_option maxRecDepth 100000

/-- The words that tell a change, as they lie. -/
def ChgTab (w : World) : Prop := w.cell? ⟨2, 0, none⟩ = some (.string (S chB)) ∧ w.cell? ⟨2, 1, none⟩ = some (.string (S coB))
theorem ChgTab.below {w w' : World} (h : ChgTab w) (hb : Below w.heap.size w w') : ChgTab w' := by
  refine ⟨?_, ?_⟩
  · rw [hb.cell (World.block_lt_of_cell? w _ h.1)]; exact h.1
  · rw [hb.cell (World.block_lt_of_cell? w _ h.2)]; exact h.2
theorem beq_S (f : ByteArray) (l : List UInt8) : (f.toList == (S l).toList) = (f.data.toList == l) := by rw [Lib.toList_data, Lib.toList_data, S_l]
theorem idx0 (C0 C1 : ByteArray) (W : World) : (Instr.index 112 (.agg #[.string C0, .string C1]) (.int .i64 0)).run Tryz.prog W = .ok (.string C0) W := by kernel_rfl
theorem idx1 (C0 C1 : ByteArray) (W : World) : (Instr.index 112 (.agg #[.string C0, .string C1]) (.int .i64 1)).run Tryz.prog W = .ok (.string C1) W := by kernel_rfl
set_option maxHeartbeats 1000000 in
theorem tells_any (f : ByteArray) (w : World) (hT : ChgTab w) :
    Calls Tryz.prog 56 #[.string f] w fun e w' => e = .returned (.bool ((f.data.toList == chB) || (f.data.toList == coB))) ∧ w = w' := by
  obtain ⟨c0, c1⟩ := hT
  have q0 := beq_S f chB
  have q1 := beq_S f coB
  generalize (f.data.toList == chB) = x0 at *
  generalize (f.data.toList == coB) = x1 at *
  generalize S chB = C0 at *
  generalize S coB = C1 at *
  have r0 := idx0 C0 C1
  have r1 := idx1 C0 C1
  go_enter Tryz.func56, Tryz.ntmps56
  go_wp2_with fail
  go_loopw [6] (fun iv wr => ∃ k : Nat, iv = .int .i64 (k : Int) ∧ k ≤ 2 ∧ Hid (0 < k → x0 = false) ∧ Hid (1 < k → x1 = false) ∧ Hid (w = wr)) (fun iv _ => 2 - (intOf iv).toNat)
  case atStart => exact ⟨0, rfl, by omega, fun h => by omega, fun h => by omega, rfl⟩
  case round =>
    obtain ⟨k, rfl, hk, h0, h1, hw⟩ := hrel
    have hw' := hw.out
    subst hw'
    clear hw
    by_cases k0 : k = 0
    · subst k0
      cases x0 with
      | true =>
        go_wp2_with fail
        go_ret
        exact ⟨rfl, rfl⟩
      | false =>
        go_wp2_with fail
        go_roundw
        case rel => exact ⟨1, rfl, by omega, fun _ => by trivial, fun h => by omega, by unfold Hid; trivial⟩
        case measure => simp [intOf]
    · by_cases k1 : k = 1
      · subst k1
        have hx0 := h0.out (by omega)
        subst hx0
        cases x1 with
        | true =>
          go_wp2_with fail
          go_ret
          exact ⟨rfl, rfl⟩
        | false =>
          go_wp2_with fail
          go_roundw
          case rel => exact ⟨2, rfl, by omega, fun _ => by trivial, fun _ => by trivial, by unfold Hid; trivial⟩
          case measure => simp [intOf]
      · have k2 : k = 2 := by omega
        subst k2
        have hx0 := h0.out (by omega)
        have hx1 := h1.out (by omega)
        subst hx0 hx1
        go_wp2_with fail
        go_ret
        exact ⟨rfl, rfl⟩
theorem parseE_any (s : ByteArray) (w : World) (hs : s.size ≤ 4194304) :
    Calls Tryz.prog 57 #[.string s] w fun e w' => (∃ t a n c q, e = .returned (.tuple #[.agg #[.string t, .slice a n c], .int .i64 (if dacc (drun 0 (fold s.data.toList)) = true then 0 else 40), .int .i64 q])) ∧ Below w.heap.size w w' := by
  refine (parse_any s (S (fold s.data.toList)) rfl w hs).mono ?_
  rintro e w' ⟨h, hb⟩
  refine ⟨?_, hb⟩
  have hd := (desc_dfa (S (fold s.data.toList))).2
  rw [S_l] at hd
  rw [← hd]
  rcases h with ⟨h1, v, L, rfl, hO, _⟩ | ⟨h1, rfl⟩
  · rw [if_pos h1]
    rcases hO.2 with ⟨rfl, _⟩ | ⟨g, cap, cur, rfl, _⟩
    · exact ⟨_, _, _, _, _, rfl⟩
    · exact ⟨_, _, _, _, _, rfl⟩
  · rw [if_neg (by rw [h1]; decide)]
    exact ⟨_, _, _, _, _, rfl⟩
end Lr
end Go.Proofs.YtgdinncdhjeokaaGreatDoor
