import Derived.Test.YtilglidhlcmfbaaDoorAllPlay
namespace Go.Proofs.YtilglidhlcmfbaaDoor
open Go.RowKit
open TextMath (hex b64 unb unhex fold)
set_option linter.unusedVariables false

theorem RowTab.below {w w' : World} (h : RowTab w) (hb : Below w.heap.size w w') : RowTab w' := fun r c hr hc => by
  rw [hb.cell (World.block_lt_of_cell? w _ (h r c hr hc))]
  exact h r c hr hc


set_option maxRecDepth 100000 in
set_option maxHeartbeats 1000000 in
theorem plays0 (s : ByteArray) (w : World) (hs : s.size ≤ 1048576) (hH : HexTab w) (hA : AlTab w) (hW : WTab w) (hR : RowTab w) :
    Calls Tryd.prog 8 #[.agg #[.int .i64 0, .string s]] w fun e w' => e = .returned (.bool true) ∧ Below w.heap.size w w' := by
  obtain ⟨W0, hW0⟩ : ∃ W0, w.alloc (.cells #[.int .i64 0, .string s] 27) = W0 := ⟨_, rfl⟩
  have HB0 : Below w.heap.size w W0 := by rw [← hW0]; exact (Below.refl _ _).alloc (Nat.le_refl _) _
  have hz0 : Hid (w.heap.size < W0.heap.size) := by unfold Hid; rw [← hW0]; simp
  have q0 : W0.cell? ⟨w.heap.size, 0, none⟩ = some (.int .i64 0) := by rw [← hW0]; simp [go_sem]
  have q1 : W0.cell? ⟨w.heap.size, 1, none⟩ = some (.string s) := by rw [← hW0]; simp [go_sem]
  go_enter Tryd.func8, Tryd.ntmps8
  go_wp2_with (go_at_call 14; refine (checks_walk s _ ?_ ?_).mono ?_; (omega); (exact hR.below HB0); rintro e w1 ⟨rfl, hb1⟩)
  go_ret
  exact ⟨rfl, HB0.trans (hb1.mono HB0.size)⟩


set_option maxRecDepth 100000 in
set_option maxHeartbeats 1000000 in
theorem plays6 (s : ByteArray) (w : World) (hs : s.size ≤ 1048576) (hH : HexTab w) (hA : AlTab w) (hW : WTab w) (hR : RowTab w) :
    Calls Tryd.prog 8 #[.agg #[.int .i64 6, .string s]] w fun e w' => e = .returned (.bool true) ∧ Below w.heap.size w w' := by
  obtain ⟨W0, hW0⟩ : ∃ W0, w.alloc (.cells #[.int .i64 6, .string s] 27) = W0 := ⟨_, rfl⟩
  have HB0 : Below w.heap.size w W0 := by rw [← hW0]; exact (Below.refl _ _).alloc (Nat.le_refl _) _
  have hz0 : Hid (w.heap.size < W0.heap.size) := by unfold Hid; rw [← hW0]; simp
  have q0 : W0.cell? ⟨w.heap.size, 0, none⟩ = some (.int .i64 6) := by rw [← hW0]; simp [go_sem]
  have q1 : W0.cell? ⟨w.heap.size, 1, none⟩ = some (.string s) := by rw [← hW0]; simp [go_sem]
  go_enter Tryd.func8, Tryd.ntmps8
  go_wp2_with (go_at_call 25; refine (unhexes_any s _ ?_).mono ?_; (omega); rintro e w1 ⟨rfl, hb1⟩)
  go_ret
  exact ⟨rfl, HB0.trans (hb1.mono HB0.size)⟩


set_option maxRecDepth 100000 in
set_option maxHeartbeats 1000000 in
theorem plays8 (s : ByteArray) (w : World) (hs : s.size ≤ 1048576) (hH : HexTab w) (hA : AlTab w) (hW : WTab w) (hR : RowTab w) :
    Calls Tryd.prog 8 #[.agg #[.int .i64 8, .string s]] w fun e w' => e = .returned (.bool true) ∧ Below w.heap.size w w' := by
  obtain ⟨W0, hW0⟩ : ∃ W0, w.alloc (.cells #[.int .i64 8, .string s] 27) = W0 := ⟨_, rfl⟩
  have HB0 : Below w.heap.size w W0 := by rw [← hW0]; exact (Below.refl _ _).alloc (Nat.le_refl _) _
  have hz0 : Hid (w.heap.size < W0.heap.size) := by unfold Hid; rw [← hW0]; simp
  have q0 : W0.cell? ⟨w.heap.size, 0, none⟩ = some (.int .i64 8) := by rw [← hW0]; simp [go_sem]
  have q1 : W0.cell? ⟨w.heap.size, 1, none⟩ = some (.string s) := by rw [← hW0]; simp [go_sem]
  go_enter Tryd.func8, Tryd.ntmps8
  go_wp2_with (go_at_call 7; refine (unbases_any s _ ?_ ?_).mono ?_; (omega); (exact hW.below HB0); rintro e w1 ⟨rfl, hb1⟩)
  go_ret
  exact ⟨rfl, HB0.trans (hb1.mono HB0.size)⟩


set_option maxRecDepth 100000 in
set_option maxHeartbeats 1000000 in
theorem playsElse (k : Int) (s : ByteArray) (w : World) (hs : s.size ≤ 1048576) (hH : HexTab w) (hA : AlTab w) (hW : WTab w) (hR : RowTab w) (hk : ∀ j : Int, 0 ≤ j → j ≤ 10 → (k == j) = false) :
    Calls Tryd.prog 8 #[.agg #[.int .i64 k, .string s]] w fun e w' => e = .returned (.bool true) ∧ Below w.heap.size w w' := by
  obtain ⟨W0, hW0⟩ : ∃ W0, w.alloc (.cells #[.int .i64 k, .string s] 27) = W0 := ⟨_, rfl⟩
  have HB0 : Below w.heap.size w W0 := by rw [← hW0]; exact (Below.refl _ _).alloc (Nat.le_refl _) _
  have hz0 : Hid (w.heap.size < W0.heap.size) := by unfold Hid; rw [← hW0]; simp
  have q0 : W0.cell? ⟨w.heap.size, 0, none⟩ = some (.int .i64 k) := by rw [← hW0]; simp [go_sem]
  have q1 : W0.cell? ⟨w.heap.size, 1, none⟩ = some (.string s) := by rw [← hW0]; simp [go_sem]
  go_enter Tryd.func8, Tryd.ntmps8
  have k0 := hk 0 (by omega) (by omega)
  have k1 := hk 1 (by omega) (by omega)
  have k2 := hk 2 (by omega) (by omega)
  have k3 := hk 3 (by omega) (by omega)
  have k4 := hk 4 (by omega) (by omega)
  have k5 := hk 5 (by omega) (by omega)
  have k6 := hk 6 (by omega) (by omega)
  have k7 := hk 7 (by omega) (by omega)
  have k8 := hk 8 (by omega) (by omega)
  have k9 := hk 9 (by omega) (by omega)
  have k10 := hk 10 (by omega) (by omega)
  clear hk
  go_wp2_with fail
  go_ret
  exact ⟨rfl, HB0⟩

theorem plays_any (k : Int) (s : ByteArray) (w : World) (hs : s.size ≤ 1048576) (hH : HexTab w) (hA : AlTab w) (hW : WTab w) (hR : RowTab w) :
    Calls Tryd.prog 8 #[.agg #[.int .i64 k, .string s]] w fun e w' => e = .returned (.bool true) ∧ Below w.heap.size w w' := by
  by_cases h0 : k = 0
  · subst h0; exact plays0 s w hs hH hA hW hR
  by_cases h1 : k = 1
  · subst h1; exact plays1 s w hs hH hA hW hR
  by_cases h2 : k = 2
  · subst h2; exact plays2 s w hs hH hA hW hR
  by_cases h3 : k = 3
  · subst h3; exact plays3 s w hs hH hA hW hR
  by_cases h4 : k = 4
  · subst h4; exact plays4 s w hs hH hA hW hR
  by_cases h5 : k = 5
  · subst h5; exact plays5 s w hs hH hA hW hR
  by_cases h6 : k = 6
  · subst h6; exact plays6 s w hs hH hA hW hR
  by_cases h7 : k = 7
  · subst h7; exact plays7 s w hs hH hA hW hR
  by_cases h8 : k = 8
  · subst h8; exact plays8 s w hs hH hA hW hR
  by_cases h9 : k = 9
  · subst h9; exact plays9 s w hs hH hA hW hR
  by_cases h10 : k = 10
  · subst h10; exact plays10 s w hs hH hA hW hR
  refine playsElse k s w hs hH hA hW hR ?_
  intro j j0 j1
  rw [beq_eq_false_iff_ne]
  omega
end Go.Proofs.YtilglidhlcmfbaaDoor
