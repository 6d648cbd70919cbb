import Derived.Test.YteloiehknhapfaaBRefHead
import Derived.Laws.StructEq
namespace Go.Proofs.Yteloiehknhapfaa
open Go.RowKit
open BerMath (Hd HR num hAt)

theorem eq_hdr (l0 : Int) (l1 : Bool) (l2 l3 l4 : Int) (m0 : Int) (m1 : Bool) (m2 m3 m4 : Int) (W : World) :
    (binOp .eql 31 (.agg #[.int .i64 l0, .bool l1, .int .i64 l2, .int .i64 l3, .int .i64 l4]) (.agg #[.int .i64 m0, .bool m1, .int .i64 m2, .int .i64 m3, .int .i64 m4])).run Try.prog W = .ok (.bool ((l0 == m0) && (l1 == m1) && (l2 == m2) && (l3 == m3) && (l4 == m4))) W := by
  have hS : Try.prog.underlying 31 = some (.struct (Try.prog.fieldsOf 31)) := by kernel_rfl
  have hp : Try.prog.stoodInHeld 31 = false := by kernel_rfl
  rw [run_eql_struct, run_equalIn_struct _ _ _ _ _ hS hp]
  simp only [Program.fieldsOf, Try.underlying31]
  simp [Op.eqFields, go_sem]
  by_cases h0 : l0 = m0 <;> by_cases h1 : l1 = m1 <;> by_cases h2 : l2 = m2 <;> by_cases h3 : l3 = m3 <;> by_cases h4 : l4 = m4 <;> simp_all

theorem headV_of (s : ByteArray) (l0 : Int) (l1 : Bool) (l2 l3 l4 c q : Int) (h : refHV s.data.toList 0 s.size = .tuple #[.agg #[.int .i64 l0, .bool l1, .int .i64 l2, .int .i64 l3, .int .i64 l4], .int .i64 c, .int .i64 q]) :
    ((c == -1) = true ∧ headV s = .tuple #[.agg #[.int .i64 0, .bool false, .int .i64 0, .int .i64 0, .int .i64 0], .int .i64 20]) ∨ ((c == -1) = false ∧ headV s = .tuple #[.agg #[.int .i64 l0, .bool l1, .int .i64 l2, .int .i64 l3, .int .i64 l4], .int .i64 c]) := by
  unfold refHV at h
  unfold headV
  cases hh : hAt s.data.toList 0 s.size with
  | ok x =>
    rw [hh] at h
    simp [hdV] at h
    obtain ⟨⟨a0, a1, a2, a3, a4⟩, a5, _⟩ := h
    refine Or.inr ⟨by rw [← a5]; rfl, ?_⟩
    show Value.tuple #[hdV x, .int .i64 0] = _
    unfold hdV
    rw [a0, a1, a2, a3, a4, ← a5]
  | error o =>
    cases o with
    | some cq =>
      obtain ⟨a, b⟩ := cq
      rw [hh] at h
      simp [hdZ] at h
      obtain ⟨⟨a0, a1, a2, a3, a4⟩, a5, _⟩ := h
      refine Or.inr ⟨?_, ?_⟩
      · rw [← a5, beq_eq_false_iff_ne]; omega
      · show Value.tuple #[.agg hdZ.toArray, .int .i64 (a : Int)] = _
        rw [← a0, a1, ← a2, ← a3, ← a4, ← a5]; rfl
    | none =>
      rw [hh] at h
      simp [hdZ] at h
      obtain ⟨_, a5, _⟩ := h
      exact Or.inl ⟨by rw [← a5]; rfl, rfl⟩

set_option maxHeartbeats 1000000 in
theorem refHead_any (s : ByteArray) (w : World) (hm : s.size ≤ 140737488355328) : Calls Try.prog 12 #[.string s] w fun r w' => r = .returned (headV s) ∧ Below w.heap.size w w' := by
  obtain ⟨l0, l1, l2, l3, l4, c, q, hv⟩ := refHV_tup s.data.toList 0 s.size
  have hH : ∀ W, Hid (Calls Try.prog 29 #[.string s, .int .i64 0, .int .i64 (s.size : Int)] W fun r w' => r = .returned (.tuple #[.agg #[.int .i64 l0, .bool l1, .int .i64 l2, .int .i64 l3, .int .i64 l4], .int .i64 c, .int .i64 q]) ∧ Below W.heap.size W w') := fun W => by
    have := refHeadAt_any s 0 s.size W (Nat.le_refl _) hm (Nat.zero_le _)
    rw [hv] at this
    exact this
  have hz : ∀ w', Below (w.heap.size + 1) (w.alloc (.cells #[.int .i64 0, .bool false, .int .i64 0, .int .i64 0, .int .i64 0] 31)) w' → Cells w' w.heap.size hdZ := fun w' hb => by
    have h0 : Cells (w.alloc (.cells #[.int .i64 0, .bool false, .int .i64 0, .int .i64 0, .int .i64 0] 31)) w.heap.size hdZ := by
      intro j hj
      have : j = 0 ∨ j = 1 ∨ j = 2 ∨ j = 3 ∨ j = 4 := by simp [hdZ] at hj; omega
      rcases this with rfl | rfl | rfl | rfl | rfl <;> simp [go_sem, hdZ]
    exact h0.of_block (hb.block _ (Nat.lt_succ_self _))
  rcases headV_of s l0 l1 l2 l3 l4 c q hv with ⟨hc, hV⟩ | ⟨hc, hV⟩
  all_goals
    rw [hV]
    clear hv hV
    go_enter Try.func12, Try.ntmps12
    go_wp2_with fail
    refine (hH _).out.mono ?_
    rintro r w1 ⟨rfl, hb⟩
    have hb' : Below (w.heap.size + 1) (w.alloc (.cells #[.int .i64 0, .bool false, .int .i64 0, .int .i64 0, .int .i64 0] 31)) w1 := by simpa using hb
    have hrb := hz w1 hb'
    have r0 : w1.cell? ⟨w.heap.size, 0, none⟩ = some (.int .i64 0) := (hrb 0 (by simp [hdZ])).1
    have r1 : w1.cell? ⟨w.heap.size, 1, none⟩ = some (.bool false) := (hrb 1 (by simp [hdZ])).1
    have r2 : w1.cell? ⟨w.heap.size, 2, none⟩ = some (.int .i64 0) := (hrb 2 (by simp [hdZ])).1
    have r3 : w1.cell? ⟨w.heap.size, 3, none⟩ = some (.int .i64 0) := (hrb 3 (by simp [hdZ])).1
    have r4 : w1.cell? ⟨w.heap.size, 4, none⟩ = some (.int .i64 0) := (hrb 4 (by simp [hdZ])).1
    have z0 : w1.frozen? ⟨w.heap.size, 0, none⟩ = false := (hrb 0 (by simp [hdZ])).2
    have z1 : w1.frozen? ⟨w.heap.size, 1, none⟩ = false := (hrb 1 (by simp [hdZ])).2
    have z2 : w1.frozen? ⟨w.heap.size, 2, none⟩ = false := (hrb 2 (by simp [hdZ])).2
    have z3 : w1.frozen? ⟨w.heap.size, 3, none⟩ = false := (hrb 3 (by simp [hdZ])).2
    have z4 : w1.frozen? ⟨w.heap.size, 4, none⟩ = false := (hrb 4 (by simp [hdZ])).2
    have n1 : w.heap.size < w1.heap.size := by have := hb'.size; simp at this; omega
    have HB : Below w.heap.size w w1 := ((Below.refl _ _).alloc (Nat.le_refl _) _).trans (hb'.mono (Nat.le_succ _))
    clear hrb hb hb' hH hz
    go_wp2_with fail
    refine bodyPost_ret_by (by
      simp [results, Try.results12, go_sem, r0, r1, r2, r3, r4, n1]) rfl ⟨rfl, ?_⟩
    refine Below.alloc (Below.setCell (Below.setCell (Below.setCell (Below.setCell (Below.setCell HB ?_ _) ?_ _) ?_ _) ?_ _) ?_ _) (by simp only [World.size_setCell]; exact Nat.le_of_lt n1) _
    all_goals exact Nat.le_refl _

theorem headV_tup (s : ByteArray) : ∃ (l0 : Int) (l1 : Bool) (l2 l3 l4 c : Int), headV s = .tuple #[.agg #[.int .i64 l0, .bool l1, .int .i64 l2, .int .i64 l3, .int .i64 l4], .int .i64 c] := by
  obtain ⟨l0, l1, l2, l3, l4, c, q, hv⟩ := refHV_tup s.data.toList 0 s.size
  rcases headV_of s l0 l1 l2 l3 l4 c q hv with ⟨_, hV⟩ | ⟨_, hV⟩
  · exact ⟨_, _, _, _, _, _, hV⟩
  · exact ⟨_, _, _, _, _, _, hV⟩

set_option maxHeartbeats 1000000 in
theorem berHead_walk (s : ByteArray) (w : World) (hz : s.size ≤ reachBytes) :
    Calls Try.prog 5 #[.string s] w fun e w' => e = .returned (.bool true) ∧ Below w.heap.size w w' := by
  have hm : s.size ≤ 140737488355328 := by unfold reachBytes at hz; omega
  obtain ⟨l0, l1, l2, l3, l4, c, hv⟩ := headV_tup s
  have H1 : ∀ W, Hid (Calls Try.prog 11 #[.string s] W fun e w' => e = .returned (.tuple #[.agg #[.int .i64 l0, .bool l1, .int .i64 l2, .int .i64 l3, .int .i64 l4], .int .i64 c]) ∧ Below W.heap.size W w') := fun W => by have := berHead_any s W hm; rw [hv] at this; exact this
  have H2 : ∀ W, Hid (Calls Try.prog 12 #[.string s] W fun e w' => e = .returned (.tuple #[.agg #[.int .i64 l0, .bool l1, .int .i64 l2, .int .i64 l3, .int .i64 l4], .int .i64 c]) ∧ Below W.heap.size W w') := fun W => by have := refHead_any s W hm; rw [hv] at this; exact this
  have heq : ∀ W, (binOp .eql 31 (.agg #[.int .i64 l0, .bool l1, .int .i64 l2, .int .i64 l3, .int .i64 l4]) (.agg #[.int .i64 l0, .bool l1, .int .i64 l2, .int .i64 l3, .int .i64 l4])).run Try.prog W = .ok (.bool true) W := fun W => by
    rw [eq_hdr]; simp
  clear hv
  go_enter Try.func5, Try.ntmps5
  go_wp2_with fail
  refine (H1 _).out.mono ?_
  rintro r w1 ⟨rfl, hb1⟩
  go_wp2_with fail
  refine (H2 _).out.mono ?_
  rintro r w2 ⟨rfl, hb2⟩
  have c0 : w2.cell? ⟨w1.heap.size, 0, none⟩ = some (.int .i64 l0) := by rw [hb2.cell (by simp)]; simp [go_sem]
  have c1 : w2.cell? ⟨w1.heap.size, 1, none⟩ = some (.bool l1) := by rw [hb2.cell (by simp)]; simp [go_sem]
  have c2 : w2.cell? ⟨w1.heap.size, 2, none⟩ = some (.int .i64 l2) := by rw [hb2.cell (by simp)]; simp [go_sem]
  have c3 : w2.cell? ⟨w1.heap.size, 3, none⟩ = some (.int .i64 l3) := by rw [hb2.cell (by simp)]; simp [go_sem]
  have c4 : w2.cell? ⟨w1.heap.size, 4, none⟩ = some (.int .i64 l4) := by rw [hb2.cell (by simp)]; simp [go_sem]
  have n1 : w1.heap.size < w2.heap.size := by have := hb2.size; simp at this; omega
  have HB : Below w.heap.size w w2 := (hb1.alloc hb1.size _).trans (hb2.mono (by simp; have := hb1.size; omega))
  clear hb2 hb1 H1 H2
  go_wp2_with fail
  go_ret
  exact ⟨rfl, HB.alloc HB.size _⟩
end Go.Proofs.Yteloiehknhapfaa
