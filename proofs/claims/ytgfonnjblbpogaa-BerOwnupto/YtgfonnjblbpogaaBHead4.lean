import Derived.Test.YtgfonnjblbpogaaBHead3
namespace Go.Proofs.Ytgfonnjblbpogaa
open Go.RowKit
open BerMath (Hd HR num hAt)

/-- What Head answers. -/
def headV (s : ByteArray) : Value :=
  match hAt s.data.toList 0 s.size with
  | .ok h => .tuple #[hdV h, .int .i64 0]
  | .error (some (c, _)) => .tuple #[.agg hdZ.toArray, .int .i64 (c : Int)]
  | .error none => .tuple #[.agg hdZ.toArray, .int .i64 20]
theorem headV_bad (s : ByteArray) (c q : Int) (h : headR s.data.toList 0 s.size 20 = gaveUp c q) : headV s = .tuple #[.agg hdZ.toArray, .int .i64 c] := by
  unfold headR at h
  unfold headV
  cases hh : hAt s.data.toList 0 s.size with
  | ok x => rw [hh] at h; cases h
  | error o =>
    cases o with
    | some cq =>
      obtain ⟨a, b⟩ := cq
      rw [hh] at h; simp [gaveUp] at h
      show Value.tuple #[.agg hdZ.toArray, .int .i64 (a : Int)] = _
      rw [h.1]
    | none =>
      rw [hh] at h; simp [gaveUp] at h
      show Value.tuple #[.agg hdZ.toArray, .int .i64 20] = _
      rw [h.1]

theorem enter_head1 : ∀ args W, (callFunc 41 args).run Try.prog W = .ok (.enter 41 args) W := enters_of Try.func41 (by kernel_rfl) rfl

set_option maxHeartbeats 1000000 in
theorem berHead_any (s : ByteArray) (w : World) (hm : s.size ≤ 281474976710656) : Calls Try.prog 16 #[.string s] w fun r w' => r = .returned (headV s) ∧ Below w.heap.size w w' := by
  have hmf : ∀ (fn : Fn) (first cap : Array Value) (w : World), (Instr.makeFunc fn first cap).run Try.prog w = .ok (.func fn first cap) w := fun _ _ _ _ => rfl
  obtain ⟨W3, hW3⟩ : ∃ W3, W3 = ((w.alloc (.cells #[.string s] 9)).alloc (.cells #[.int .i64 0, .bool false, .int .i64 0, .int .i64 0, .int .i64 0] 29)).alloc (.cells #[.int .i64 0, .bool false, .int .i64 0, .int .i64 0, .int .i64 0] 29) := ⟨_, rfl⟩
  have hs3 : W3.heap.size = w.heap.size + 1 + 1 + 1 := by rw [hW3]; simp
  have hB3 : Below w.heap.size w W3 := by
    rw [hW3]
    exact (((Below.refl _ _).alloc (Nat.le_refl _) _).alloc (by simp) _).alloc (by simp; omega) _
  have hc3 : Cells W3 (w.heap.size + 1 + 1) hdZ := by
    intro j hj
    have : j = 0 ∨ j = 1 ∨ j = 2 ∨ j = 3 ∨ j = 4 := by simp [hdZ] at hj; omega
    rw [hW3]
    rcases this with rfl | rfl | rfl | rfl | rfl <;> simp [go_sem, hdZ]
  have hr3 : Cells W3 (w.heap.size + 1) hdZ := by
    intro j hj
    have : j = 0 ∨ j = 1 ∨ j = 2 ∨ j = 3 ∨ j = 4 := by simp [hdZ] at hj; omega
    rw [hW3]
    rcases this with rfl | rfl | rfl | rfl | rfl <;> simp [go_sem, hdZ]
  have hb3 : W3.cell? ⟨w.heap.size, 0, none⟩ = some (.string s) := by rw [hW3]; simp [go_sem]
  obtain ⟨W4, hW4⟩ : ∃ W4, W4 = W3.alloc (.cells #[.int .i64 0, .int .i64 0] 74) := ⟨_, rfl⟩
  have hs4 : W4.heap.size = w.heap.size + 1 + 1 + 1 + 1 := by rw [hW4]; simp [hs3]
  have hB4 : Below W3.heap.size W3 W4 := by rw [hW4]; exact (Below.refl _ _).alloc (Nat.le_refl _) _
  have hc4 : Cells W4 (w.heap.size + 1 + 1) hdZ := hc3.of_block (hB4.block _ (by omega))
  have hb4 : W4.cell? ⟨w.heap.size, 0, none⟩ = some (.string s) := by rw [hB4.cell (by show w.heap.size < _; omega)]; exact hb3
  have hcl := head1_any s w.heap.size (w.heap.size + 1 + 1) W4 hm (by omega) hb4 hc4
  have hcaught := caught_any 41 #[.pointer (some ⟨w.heap.size, 0, none⟩), .pointer (some ⟨w.heap.size + 1 + 1, 0, none⟩)] W3 (headQ s (w.heap.size + 1 + 1) W4) enter_head1 (by
    rw [← hW4]
    refine hcl.mono ?_
    intro r w1 hq
    refine ⟨hq, hq.1 _ (by omega) (by omega), ?_, ?_⟩
    · have := hq.2.1.size; omega
    · rcases hq.2.2 with ⟨h, _, hr, _⟩ | ⟨c, q, _, hr, _⟩
      · rw [hr]; exact ⟨0, 0, Or.inl ⟨rfl, rfl, rfl⟩⟩
      · rw [hr]; exact ⟨c, q, Or.inr rfl⟩)
  -- what stands in memory behind it
  have hres : Hid (∀ (r : Ending) (w' : World), (∃ (r1 : Ending) (w1 : World) (c q : Int), headQ s (w.heap.size + 1 + 1) W4 r1 w1 ∧ Read r1 c q ∧ r = .returned (fltV c q) ∧ Below W3.heap.size w1 w') → ∃ (c q : Int) (l0 : Int) (l1 : Bool) (l2 l3 l4 : Int), r = .returned (fltV c q) ∧ headV s = .tuple #[.agg #[.int .i64 l0, .bool l1, .int .i64 l2, .int .i64 l3, .int .i64 l4], .int .i64 c] ∧ Cells w' (w.heap.size + 1 + 1) [.int .i64 l0, .bool l1, .int .i64 l2, .int .i64 l3, .int .i64 l4] ∧ Cells w' (w.heap.size + 1) hdZ ∧ Below w.heap.size w w' ∧ w.heap.size + 1 + 1 + 1 ≤ w'.heap.size) := by
    rintro r w' ⟨r1, w1, c, q, hq, hrd, rfl, hbw⟩
    have hsz := hbw.size
    have hsz1 := hq.2.1.size
    have hrb : Cells w' (w.heap.size + 1) hdZ := hr3.of_block (by rw [hbw.block _ (by omega), hq.1 _ (by omega) (by omega), hB4.block _ (by omega)])
    have hBw : Below w.heap.size w w' := hB3.trans (((hB4.mono (by omega)).trans (hq.2.1.mono (by omega))).trans (hbw.mono (by omega)))
    rcases hq.2.2 with ⟨h, hk, hr, hcs⟩ | ⟨c', q', hk, hr, hcs⟩
    · rw [hr] at hrd
      obtain ⟨rfl, rfl⟩ := read_back hrd
      refine ⟨0, 0, h.cls, h.made, h.tag, h.len, h.size, rfl, ?_, hcs.of_block (hbw.block _ (by omega)), hrb, hBw, by omega⟩
      unfold headV; rw [hk]; rfl
    · rw [hr] at hrd
      obtain ⟨rfl, rfl⟩ := read_gave hrd
      exact ⟨c, q, 0, false, 0, 0, 0, rfl, headV_bad s c q hk, hcs.of_block (hbw.block _ (by omega)), hrb, hBw, by omega⟩
  clear hcl hc4 hb4 hB4 hs4 hc3 hr3 hb3
  go_enter Try.func16, Try.ntmps16
  go_wp2_with fail
  rw [← hW3]
  refine hcaught.mono ?_
  intro r w' hh
  obtain ⟨c, q, l0, l1, l2, l3, l4, rfl, hv, hcs, hrb, hBw, hsz⟩ := hres.out r w' hh
  clear hh hres hcaught hW3 hW4 hs3 hB3
  have c0 : w'.cell? ⟨w.heap.size + 1 + 1, 0, none⟩ = some (.int .i64 l0) := (hcs 0 (by simp)).1
  have c1 : w'.cell? ⟨w.heap.size + 1 + 1, 1, none⟩ = some (.bool l1) := (hcs 1 (by simp)).1
  have c2 : w'.cell? ⟨w.heap.size + 1 + 1, 2, none⟩ = some (.int .i64 l2) := (hcs 2 (by simp)).1
  have c3 : w'.cell? ⟨w.heap.size + 1 + 1, 3, none⟩ = some (.int .i64 l3) := (hcs 3 (by simp)).1
  have c4 : w'.cell? ⟨w.heap.size + 1 + 1, 4, none⟩ = some (.int .i64 l4) := (hcs 4 (by simp)).1
  have r0 : w'.cell? ⟨w.heap.size + 1, 0, none⟩ = some (.int .i64 0) := (hrb 0 (by simp [hdZ])).1
  have r1 : w'.cell? ⟨w.heap.size + 1, 1, none⟩ = some (.bool false) := (hrb 1 (by simp [hdZ])).1
  have r2 : w'.cell? ⟨w.heap.size + 1, 2, none⟩ = some (.int .i64 0) := (hrb 2 (by simp [hdZ])).1
  have r3 : w'.cell? ⟨w.heap.size + 1, 3, none⟩ = some (.int .i64 0) := (hrb 3 (by simp [hdZ])).1
  have r4 : w'.cell? ⟨w.heap.size + 1, 4, none⟩ = some (.int .i64 0) := (hrb 4 (by simp [hdZ])).1
  have z0 : w'.frozen? ⟨w.heap.size + 1, 0, none⟩ = false := (hrb 0 (by simp [hdZ])).2
  have z1 : w'.frozen? ⟨w.heap.size + 1, 1, none⟩ = false := (hrb 1 (by simp [hdZ])).2
  have z2 : w'.frozen? ⟨w.heap.size + 1, 2, none⟩ = false := (hrb 2 (by simp [hdZ])).2
  have z3 : w'.frozen? ⟨w.heap.size + 1, 3, none⟩ = false := (hrb 3 (by simp [hdZ])).2
  have z4 : w'.frozen? ⟨w.heap.size + 1, 4, none⟩ = false := (hrb 4 (by simp [hdZ])).2
  have n1 : w.heap.size + 1 < w'.heap.size := by omega
  have n2 : w.heap.size + 1 + 1 < w'.heap.size := by omega
  clear hcs hrb
  go_wp2_with fail
  go_region
  all_goals (try go_wp2)
  refine bodyPost_ret_by (v := .tuple #[.agg #[.int .i64 l0, .bool l1, .int .i64 l2, .int .i64 l3, .int .i64 l4], .int .i64 c]) ?_ rfl ⟨by rw [hv], ?_⟩
  · simp [results, Try.results16, go_sem, r0, r1, r2, r3, r4, n1]
  · refine Below.drew (Below.alloc (Below.setCell (Below.setCell (Below.setCell (Below.setCell (Below.setCell hBw ?_ _) ?_ _) ?_ _) ?_ _) ?_ _) ?_ _)
    all_goals (simp only [World.size_setCell]; omega)
end Go.Proofs.Ytgfonnjblbpogaa
