import Derived.Test.YtnjodplnbfmjeaaGreatDoorMtTwA
namespace Go.Proofs.YtnjodplnbfmjeaaGreatDoor
open Go.RowKit
set_option linter.unusedVariables false
set_option linter.unusedSimpArgs false
namespace Mt

def inV (n lo hi : Int) : Int := lo + (if n < 0 then -(n + 1) else n).tmod (hi - lo + 1)
theorem inV_bnd {n lo hi : Int} (h : lo ≤ hi) : lo ≤ inV n lo hi ∧ inV n lo hi ≤ hi := by
  unfold inV
  have h0 : 0 ≤ (if n < 0 then -(n + 1) else n) := by split <;> omega
  have h1 := Int.tmod_nonneg (hi - lo + 1) h0
  have h2 := Int.tmod_lt_of_pos (if n < 0 then -(n + 1) else n) (show 0 < hi - lo + 1 by omega)
  omega
set_option maxRecDepth 100000 in
set_option maxHeartbeats 1000000 in
theorem in_any (n lo hi : Int) (w : World) (hn : -9223372036854775808 ≤ n ∧ n ≤ 9223372036854775807) (hl : 0 ≤ lo) (hh : lo ≤ hi) (hh2 : hi ≤ 9999) : Calls Tryz.prog 12 #[.int .i64 n, .int .i64 lo, .int .i64 hi] w fun e w' => e = .returned (.int .i64 (inV n lo hi)) ∧ w' = w := by
  have hb := inV_bnd (n := n) hh
  have e1 : wrap64 (hi - lo) = hi - lo := by unfold wrap64; omega
  have e2 : wrap64 (hi - lo + 1) = hi - lo + 1 := by unfold wrap64; omega
  have e0 : ¬ hi - lo + 1 = 0 := by omega
  have e00 : (hi - lo + 1 == 0) = false := beq_eq_false_iff_ne.2 e0
  by_cases h : n < 0
  · have hv : inV n lo hi = lo + (-(n + 1)).tmod (hi - lo + 1) := by unfold inV; rw [if_pos h]
    have e3 : wrap64 (n + 1) = n + 1 := by unfold wrap64; omega
    have e4 : wrap64 (-(n + 1)) = -(n + 1) := by unfold wrap64; omega
    have e5 : wrap64 (lo + (-(n + 1)).tmod (hi - lo + 1)) = inV n lo hi := by rw [← hv]; unfold wrap64; omega
    have hv' : Hid (inV n lo hi = lo + (-(n + 1)).tmod (hi - lo + 1)) := hv
    have e6 : Hid (wrap64 (lo + -(n + 1).tmod (hi - lo + 1)) = inV n lo hi) := by unfold Hid; rw [← Int.neg_tmod]; exact e5
    generalize inV n lo hi = out at *
    clear hv hb hn hl hh hh2 hv' e5
    go_enter Tryz.func12, Tryz.ntmps12
    go_wp2_with fail
    go_ret
    exact ⟨by show Ending.returned (.int .i64 (wrap64 (lo + -(n + 1).tmod (hi - lo + 1)))) = _; rw [e6.out], rfl⟩
  · have hv : inV n lo hi = lo + n.tmod (hi - lo + 1) := by unfold inV; rw [if_neg h]
    have e5 : wrap64 (lo + n.tmod (hi - lo + 1)) = inV n lo hi := by rw [← hv]; unfold wrap64; omega
    have hv' : Hid (inV n lo hi = lo + n.tmod (hi - lo + 1)) := hv
    have e6 : Hid (wrap64 (lo + n % (hi - lo + 1)) = inV n lo hi) := by unfold Hid; rw [← Int.tmod_eq_emod_of_nonneg (by omega)]; exact e5
    generalize inV n lo hi = out at *
    clear hv hb hn hl hh hh2 hv' e5
    go_enter Tryz.func12, Tryz.ntmps12
    go_wp2_with fail
    go_ret
    exact ⟨by show Ending.returned (.int .i64 (wrap64 (lo + n % (hi - lo + 1)))) = _; rw [e6.out], rfl⟩
end Mt
end Go.Proofs.YtnjodplnbfmjeaaGreatDoor
