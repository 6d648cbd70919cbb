import Derived.Test.YtilglidhlcmfbaaDoorAllSafe
import Derived.Test.YtilglidhlcmfbaaDoorRefNormA
import Derived.Test.YtilglidhlcmfbaaDoorRefSeq
import Derived.Test.YtilglidhlcmfbaaDoorRefUnhex
import Derived.Test.YtilglidhlcmfbaaDoorBases
import Derived.Deep.RegionWith
namespace Go.Proofs.YtilglidhlcmfbaaDoor
open Go.RowKit
open TextMath (hex b64 unb unhex fold)
set_option linter.unusedVariables false


set_option maxRecDepth 100000 in
set_option maxHeartbeats 1000000 in
theorem plays1 (s : ByteArray) (w : World) (hs : s.size ≤ 1048576) (hH : HexTab w) (hA : AlTab w) (hW : WTab w) (hR : RowTab w) :
    Calls Tryd.prog 8 #[.agg #[.int .i64 1, .string s]] w fun e w' => e = .returned (.bool true) ∧ Below w.heap.size w w' := by
  obtain ⟨W0, hW0⟩ : ∃ W0, w.alloc (.cells #[.int .i64 1, .string s] 27) = W0 := ⟨_, rfl⟩
  have HB0 : Below w.heap.size w W0 := by rw [← hW0]; exact (Below.refl _ _).alloc (Nat.le_refl _) _
  have hz0 : Hid (w.heap.size < W0.heap.size) := by unfold Hid; rw [← hW0]; simp
  have q0 : W0.cell? ⟨w.heap.size, 0, none⟩ = some (.int .i64 1) := by rw [← hW0]; simp [go_sem]
  have q1 : W0.cell? ⟨w.heap.size, 1, none⟩ = some (.string s) := by rw [← hW0]; simp [go_sem]
  go_enter Tryd.func8, Tryd.ntmps8
  go_wp2_with fail
  go_region_with (first
    | (go_at_call 15; refine (fold_any s _ ?_).mono ?_; (unfold maxLen; omega); rintro e w1 ⟨rfl, hb1⟩; have q2 : w1.cell? ⟨w.heap.size, 1, none⟩ = some (.string s) := (hb1.cell hz0.out).trans q1)
    | (go_at_call 16; refine (rFold_any s _ ?_).mono ?_; (omega); rintro e w2 ⟨rfl, hb2⟩))
  all_goals
    go_wp2_with fail
    go_ret
    exact ⟨rfl, (HB0.drew.trans (hb1.mono HB0.drew.size)).trans (hb2.mono (Nat.le_trans HB0.drew.size hb1.size))⟩


set_option maxRecDepth 100000 in
set_option maxHeartbeats 1000000 in
theorem plays2 (s : ByteArray) (w : World) (hs : s.size ≤ 1048576) (hH : HexTab w) (hA : AlTab w) (hW : WTab w) (hR : RowTab w) :
    Calls Tryd.prog 8 #[.agg #[.int .i64 2, .string s]] w fun e w' => e = .returned (.bool true) ∧ Below w.heap.size w w' := by
  obtain ⟨W0, hW0⟩ : ∃ W0, w.alloc (.cells #[.int .i64 2, .string s] 27) = W0 := ⟨_, rfl⟩
  have HB0 : Below w.heap.size w W0 := by rw [← hW0]; exact (Below.refl _ _).alloc (Nat.le_refl _) _
  have hz0 : Hid (w.heap.size < W0.heap.size) := by unfold Hid; rw [← hW0]; simp
  have q0 : W0.cell? ⟨w.heap.size, 0, none⟩ = some (.int .i64 2) := by rw [← hW0]; simp [go_sem]
  have q1 : W0.cell? ⟨w.heap.size, 1, none⟩ = some (.string s) := by rw [← hW0]; simp [go_sem]
  go_enter Tryd.func8, Tryd.ntmps8
  go_wp2_with fail
  go_region_with (first
    | (go_at_call 17; refine (collapse_any s _ ?_).mono ?_; (omega); rintro e w1 ⟨rfl, hb1⟩; have q2 : w1.cell? ⟨w.heap.size, 1, none⟩ = some (.string s) := (hb1.cell hz0.out).trans q1)
    | (go_at_call 18; refine (rCollapse_any s _ ?_).mono ?_; (omega); rintro e w2 ⟨rfl, hb2⟩))
  all_goals
    go_wp2_with fail
    go_ret
    exact ⟨rfl, (HB0.drew.trans (hb1.mono HB0.drew.size)).trans (hb2.mono (Nat.le_trans HB0.drew.size hb1.size))⟩


set_option maxRecDepth 100000 in
set_option maxHeartbeats 1000000 in
theorem plays3 (s : ByteArray) (w : World) (hs : s.size ≤ 1048576) (hH : HexTab w) (hA : AlTab w) (hW : WTab w) (hR : RowTab w) :
    Calls Tryd.prog 8 #[.agg #[.int .i64 3, .string s]] w fun e w' => e = .returned (.bool true) ∧ Below w.heap.size w w' := by
  obtain ⟨W0, hW0⟩ : ∃ W0, w.alloc (.cells #[.int .i64 3, .string s] 27) = W0 := ⟨_, rfl⟩
  have HB0 : Below w.heap.size w W0 := by rw [← hW0]; exact (Below.refl _ _).alloc (Nat.le_refl _) _
  have hz0 : Hid (w.heap.size < W0.heap.size) := by unfold Hid; rw [← hW0]; simp
  have q0 : W0.cell? ⟨w.heap.size, 0, none⟩ = some (.int .i64 3) := by rw [← hW0]; simp [go_sem]
  have q1 : W0.cell? ⟨w.heap.size, 1, none⟩ = some (.string s) := by rw [← hW0]; simp [go_sem]
  go_enter Tryd.func8, Tryd.ntmps8
  go_wp2_with fail
  go_region_with (first
    | (go_at_call 19; refine (squeeze_any s _ ?_).mono ?_; (omega); rintro e w1 ⟨rfl, hb1⟩; have q2 : w1.cell? ⟨w.heap.size, 1, none⟩ = some (.string s) := (hb1.cell hz0.out).trans q1)
    | (go_at_call 20; refine (rSqueeze_any s _ ?_).mono ?_; (omega); rintro e w2 ⟨rfl, hb2⟩))
  all_goals
    go_wp2_with fail
    go_ret
    exact ⟨rfl, (HB0.drew.trans (hb1.mono HB0.drew.size)).trans (hb2.mono (Nat.le_trans HB0.drew.size hb1.size))⟩


set_option maxRecDepth 100000 in
set_option maxHeartbeats 1000000 in
theorem plays4 (s : ByteArray) (w : World) (hs : s.size ≤ 1048576) (hH : HexTab w) (hA : AlTab w) (hW : WTab w) (hR : RowTab w) :
    Calls Tryd.prog 8 #[.agg #[.int .i64 4, .string s]] w fun e w' => e = .returned (.bool true) ∧ Below w.heap.size w w' := by
  obtain ⟨W0, hW0⟩ : ∃ W0, w.alloc (.cells #[.int .i64 4, .string s] 27) = W0 := ⟨_, rfl⟩
  have HB0 : Below w.heap.size w W0 := by rw [← hW0]; exact (Below.refl _ _).alloc (Nat.le_refl _) _
  have hz0 : Hid (w.heap.size < W0.heap.size) := by unfold Hid; rw [← hW0]; simp
  have q0 : W0.cell? ⟨w.heap.size, 0, none⟩ = some (.int .i64 4) := by rw [← hW0]; simp [go_sem]
  have q1 : W0.cell? ⟨w.heap.size, 1, none⟩ = some (.string s) := by rw [← hW0]; simp [go_sem]
  go_enter Tryd.func8, Tryd.ntmps8
  go_wp2_with fail
  go_region_with (first
    | (go_at_call 21; refine (normal_any s _ ?_).mono ?_; (omega); rintro e w1 ⟨rfl, hb1⟩; have q2 : w1.cell? ⟨w.heap.size, 1, none⟩ = some (.string s) := (hb1.cell hz0.out).trans q1)
    | (go_at_call 22; refine (rNormal_any s _ ?_).mono ?_; (omega); rintro e w2 ⟨rfl, hb2⟩))
  all_goals
    go_wp2_with fail
    go_ret
    exact ⟨rfl, (HB0.drew.trans (hb1.mono HB0.drew.size)).trans (hb2.mono (Nat.le_trans HB0.drew.size hb1.size))⟩


set_option maxRecDepth 100000 in
set_option maxHeartbeats 1000000 in
theorem plays5 (s : ByteArray) (w : World) (hs : s.size ≤ 1048576) (hH : HexTab w) (hA : AlTab w) (hW : WTab w) (hR : RowTab w) :
    Calls Tryd.prog 8 #[.agg #[.int .i64 5, .string s]] w fun e w' => e = .returned (.bool true) ∧ Below w.heap.size w w' := by
  obtain ⟨W0, hW0⟩ : ∃ W0, w.alloc (.cells #[.int .i64 5, .string s] 27) = W0 := ⟨_, rfl⟩
  have HB0 : Below w.heap.size w W0 := by rw [← hW0]; exact (Below.refl _ _).alloc (Nat.le_refl _) _
  have hz0 : Hid (w.heap.size < W0.heap.size) := by unfold Hid; rw [← hW0]; simp
  have q0 : W0.cell? ⟨w.heap.size, 0, none⟩ = some (.int .i64 5) := by rw [← hW0]; simp [go_sem]
  have q1 : W0.cell? ⟨w.heap.size, 1, none⟩ = some (.string s) := by rw [← hW0]; simp [go_sem]
  go_enter Tryd.func8, Tryd.ntmps8
  go_wp2_with fail
  go_region_with (first
    | (go_at_call 23; refine (hex_any s _ ?_ ?_).mono ?_; (omega); (exact hH.below HB0.drew); rintro e w1 ⟨rfl, hb1⟩; have q2 : w1.cell? ⟨w.heap.size, 1, none⟩ = some (.string s) := (hb1.cell hz0.out).trans q1)
    | (go_at_call 24; refine (rHex_any s _ ?_).mono ?_; (omega); rintro e w2 ⟨rfl, hb2⟩))
  all_goals
    go_wp2_with fail
    go_ret
    exact ⟨rfl, (HB0.drew.trans (hb1.mono HB0.drew.size)).trans (hb2.mono (Nat.le_trans HB0.drew.size hb1.size))⟩


set_option maxRecDepth 100000 in
set_option maxHeartbeats 1000000 in
theorem plays7 (s : ByteArray) (w : World) (hs : s.size ≤ 1048576) (hH : HexTab w) (hA : AlTab w) (hW : WTab w) (hR : RowTab w) :
    Calls Tryd.prog 8 #[.agg #[.int .i64 7, .string s]] w fun e w' => e = .returned (.bool true) ∧ Below w.heap.size w w' := by
  obtain ⟨W0, hW0⟩ : ∃ W0, w.alloc (.cells #[.int .i64 7, .string s] 27) = W0 := ⟨_, rfl⟩
  have HB0 : Below w.heap.size w W0 := by rw [← hW0]; exact (Below.refl _ _).alloc (Nat.le_refl _) _
  have hz0 : Hid (w.heap.size < W0.heap.size) := by unfold Hid; rw [← hW0]; simp
  have q0 : W0.cell? ⟨w.heap.size, 0, none⟩ = some (.int .i64 7) := by rw [← hW0]; simp [go_sem]
  have q1 : W0.cell? ⟨w.heap.size, 1, none⟩ = some (.string s) := by rw [← hW0]; simp [go_sem]
  go_enter Tryd.func8, Tryd.ntmps8
  go_wp2_with fail
  go_region_with (first
    | (go_at_call 5; refine (base64_any s _ ?_ ?_).mono ?_; (omega); (exact hA.below HB0.drew); rintro e w1 ⟨rfl, hb1⟩; have q2 : w1.cell? ⟨w.heap.size, 1, none⟩ = some (.string s) := (hb1.cell hz0.out).trans q1)
    | (go_at_call 6; refine (rBase64_any s _ ?_).mono ?_; (omega); rintro e w2 ⟨rfl, hb2⟩))
  all_goals
    go_wp2_with fail
    go_ret
    exact ⟨rfl, (HB0.drew.trans (hb1.mono HB0.drew.size)).trans (hb2.mono (Nat.le_trans HB0.drew.size hb1.size))⟩


set_option maxRecDepth 100000 in
set_option maxHeartbeats 1000000 in
theorem plays9 (s : ByteArray) (w : World) (hs : s.size ≤ 1048576) (hH : HexTab w) (hA : AlTab w) (hW : WTab w) (hR : RowTab w) :
    Calls Tryd.prog 8 #[.agg #[.int .i64 9, .string s]] w fun e w' => e = .returned (.bool true) ∧ Below w.heap.size w w' := by
  obtain ⟨W0, hW0⟩ : ∃ W0, w.alloc (.cells #[.int .i64 9, .string s] 27) = W0 := ⟨_, rfl⟩
  have HB0 : Below w.heap.size w W0 := by rw [← hW0]; exact (Below.refl _ _).alloc (Nat.le_refl _) _
  have hz0 : Hid (w.heap.size < W0.heap.size) := by unfold Hid; rw [← hW0]; simp
  have q0 : W0.cell? ⟨w.heap.size, 0, none⟩ = some (.int .i64 9) := by rw [← hW0]; simp [go_sem]
  have q1 : W0.cell? ⟨w.heap.size, 1, none⟩ = some (.string s) := by rw [← hW0]; simp [go_sem]
  go_enter Tryd.func8, Tryd.ntmps8
  go_wp2_with fail
  go_region_with (first
    | (go_at_call 26; refine (safe_any s _).mono ?_; rintro e w1 ⟨rfl, hb1⟩; have q2 : w1.cell? ⟨w.heap.size, 1, none⟩ = some (.string s) := (hb1.cell hz0.out).trans q1)
    | (go_at_call 27; refine (rSafe_any s _ ?_).mono ?_; (omega); rintro e w2 ⟨rfl, rfl⟩))
  all_goals
    go_wp2_with fail
    go_ret
    exact ⟨rfl, HB0.drew.trans (hb1.mono HB0.drew.size)⟩


set_option maxRecDepth 100000 in
set_option maxHeartbeats 1000000 in
theorem plays10 (s : ByteArray) (w : World) (hs : s.size ≤ 1048576) (hH : HexTab w) (hA : AlTab w) (hW : WTab w) (hR : RowTab w) :
    Calls Tryd.prog 8 #[.agg #[.int .i64 10, .string s]] w fun e w' => e = .returned (.bool true) ∧ Below w.heap.size w w' := by
  obtain ⟨W0, hW0⟩ : ∃ W0, w.alloc (.cells #[.int .i64 10, .string s] 27) = W0 := ⟨_, rfl⟩
  have HB0 : Below w.heap.size w W0 := by rw [← hW0]; exact (Below.refl _ _).alloc (Nat.le_refl _) _
  have hz0 : Hid (w.heap.size < W0.heap.size) := by unfold Hid; rw [← hW0]; simp
  have q0 : W0.cell? ⟨w.heap.size, 0, none⟩ = some (.int .i64 10) := by rw [← hW0]; simp [go_sem]
  have q1 : W0.cell? ⟨w.heap.size, 1, none⟩ = some (.string s) := by rw [← hW0]; simp [go_sem]
  go_enter Tryd.func8, Tryd.ntmps8
  go_wp2_with fail
  go_region_with (first
    | (go_at_call 28; refine (plain_any s _ ?_).mono ?_; (omega); rintro e w1 ⟨rfl, hb1⟩; have q2 : w1.cell? ⟨w.heap.size, 1, none⟩ = some (.string s) := (hb1.cell hz0.out).trans q1)
    | (go_at_call 29; refine (rPlain_any s _ ?_).mono ?_; (omega); rintro e w2 ⟨rfl, rfl⟩))
  all_goals
    go_wp2_with fail
    go_ret
    exact ⟨rfl, HB0.drew.trans (hb1.mono HB0.drew.size)⟩

end Go.Proofs.YtilglidhlcmfbaaDoor
