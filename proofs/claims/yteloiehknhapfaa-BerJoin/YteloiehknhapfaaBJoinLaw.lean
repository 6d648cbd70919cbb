import Derived.Test.YteloiehknhapfaaBRefJoin
namespace Go.Proofs.Yteloiehknhapfaa
open Go.RowKit
open BerMath (lo be)

set_option maxHeartbeats 1000000 in
theorem refJoin_bad (c : Int) (m : Bool) (t : Int) (s : ByteArray) (w : World) (h : fineB c t = false) :
    Calls Try.prog 14 #[elV c m t s] w fun r w' => r = .returned (.tuple #[.string ⟨#[]⟩, .int .i64 28]) ∧ Below w.heap.size w w' := by
  have H1 : ∀ W, Hid (Calls Try.prog 34 #[.int .i64 c, .int .i64 t] W fun r w' => r = .returned (.bool false) ∧ W = w') := fun W => by have := fine_any c t W; rw [h] at this; exact this
  go_enter Try.func14, Try.ntmps14
  go_wp2_with (go_at_call 34; refine (H1 _).out.mono ?_; rintro r w1 ⟨rfl, rfl⟩)
  go_ret2
  exact ⟨rfl, (Below.refl _ _).alloc (Nat.le_refl _) _⟩
set_option maxHeartbeats 1000000 in
theorem refJoin_big (c : Int) (m : Bool) (t : Int) (s : ByteArray) (w : World) (h : fineB c t = true) (h2 : 4294967295 < s.size) :
    Calls Try.prog 14 #[elV c m t s] w fun r w' => r = .returned (.tuple #[.string ⟨#[]⟩, .int .i64 24]) ∧ Below w.heap.size w w' := by
  have H1 : ∀ W, Hid (Calls Try.prog 34 #[.int .i64 c, .int .i64 t] W fun r w' => r = .returned (.bool true) ∧ W = w') := fun W => by have := fine_any c t W; rw [h] at this; exact this
  have d : decide ((4294967295 : Int) < (s.size : Int)) = true := decide_eq_true (by omega)
  clear h2
  go_enter Try.func14, Try.ntmps14
  go_wp2_with (go_at_call 34; refine (H1 _).out.mono ?_; rintro r w1 ⟨rfl, rfl⟩)
  go_ret2
  exact ⟨rfl, (Below.refl _ _).alloc (Nat.le_refl _) _⟩

set_option maxHeartbeats 1000000 in
theorem refJoin_good (c t : Nat) (m : Bool) (s : ByteArray) (w : World) (hc : c ≤ 3) (ht : t ≤ 30) (h : fineB (c : Int) (t : Int) = true) (h2 : s.size ≤ 4294967295) :
    Calls Try.prog 14 #[elV (c : Int) m (t : Int) s] w fun r w' => r = .returned (.tuple #[.string (S (fb c m t :: lenB s.size ++ s.data.toList)), .int .i64 0]) ∧ Below w.heap.size w w' := by
  have H1 : ∀ W, Hid (Calls Try.prog 34 #[.int .i64 (c : Int), .int .i64 (t : Int)] W fun r w' => r = .returned (.bool true) ∧ W = w') := fun W => by have := fine_any c t W; rw [h] at this; exact this
  have d : decide ((4294967295 : Int) < (s.size : Int)) = false := decide_eq_false (by omega)
  have H2 : ∀ W, Hid (Calls Try.prog 35 #[.int .i64 (c : Int), .bool m, .int .i64 (t : Int), .int .i64 (s.size : Int)] W fun r w' => ∃ v', r = .returned v' ∧ Own w' W.heap.size v' (fb c m t :: lenB s.size) ∧ Below W.heap.size W w') := fun W => refHeader_any c t m s.size W hc ht h2
  have hadd : ∀ W, (Op.stringOp .add (S (fb c m t :: lenB s.size)) s).run Try.prog W = .ok (.string (S (fb c m t :: lenB s.size ++ s.data.toList))) W := fun W => by
    have hl : (S (fb c m t :: lenB s.size)).size ≤ 6 := by
      rw [S_size, List.length_cons, lenB_len]
      have := ll_cases s.size
      omega
    rw [run_string_add_sum W _ _ (by omega)]
    congr 2
  clear h2 h
  generalize hS1 : S (fb c m t :: lenB s.size ++ s.data.toList) = RES at *
  clear hS1
  go_enter Try.func14, Try.ntmps14
  go_wp2_with (first | (go_at_call 34; refine (H1 _).out.mono ?_; rintro r w1 ⟨rfl, rfl⟩) | (go_at_call 35; refine (H2 _).out.mono ?_; rintro r w1 ⟨v1, rfl, hown1, hb1⟩; have hback := own_back_any (P := Try.prog) w1 _ 47 9 5 v1 _ _ Try.underlying47 Try.underlying5 Try.underlying9 hown1; have c3 : w1.cell? ⟨w.heap.size, 3, none⟩ = some (.string s) := (by rw [hb1.cell (by simp)]; simp [go_sem]); have HB : Below w.heap.size w w1 := ((Below.refl _ _).alloc (Nat.le_refl _) _).trans (hb1.mono (by simp)); clear hown1 hb1))
  go_ret2
  exact ⟨rfl, HB⟩

theorem refJoin_any (c : Int) (m : Bool) (t : Int) (s : ByteArray) (w : World) : Calls Try.prog 14 #[elV c m t s] w fun r w' => r = .returned (joinV c m t s) ∧ Below w.heap.size w w' := by
  unfold joinV
  cases h : fineB c t with
  | false => rw [if_pos rfl]; exact refJoin_bad c m t s w h
  | true =>
    rw [if_neg (by simp)]
    by_cases h2 : 4294967295 < s.size
    · rw [if_pos h2]; exact refJoin_big c m t s w h h2
    · rw [if_neg h2]
      obtain ⟨c', t', rfl, rfl, hc, ht⟩ := fineB_iff c t h
      exact refJoin_good c' t' m s w hc ht h (by omega)

theorem joinV_two (c : Int) (m : Bool) (t : Int) (s : ByteArray) : ∃ x e, joinV c m t s = .tuple #[.string x, .int .i64 e] := by
  unfold joinV
  split
  · exact ⟨_, _, rfl⟩
  · split
    · exact ⟨_, _, rfl⟩
    · exact ⟨_, _, rfl⟩

set_option maxHeartbeats 1000000 in
theorem berJoin_walk (c : Int) (m : Bool) (t : Int) (s : ByteArray) (w : World) :
    Calls Try.prog 6 #[elV c m t s] w fun e w' => e = .returned (.bool true) ∧ Below w.heap.size w w' := by
  obtain ⟨x, e, hv⟩ := joinV_two c m t s
  have H1 : ∀ W, Hid (Calls Try.prog 13 #[elV c m t s] W fun r w' => r = .returned (.tuple #[.string x, .int .i64 e]) ∧ Below W.heap.size W w') := fun W => by have := join_any c m t s W; rw [hv] at this; exact this
  have H2 : ∀ W, Hid (Calls Try.prog 14 #[elV c m t s] W fun r w' => r = .returned (.tuple #[.string x, .int .i64 e]) ∧ Below W.heap.size W w') := fun W => by have := refJoin_any c m t s W; rw [hv] at this; exact this
  clear hv
  go_enter Try.func6, Try.ntmps6
  go_wp2_with fail
  refine (H1 _).out.mono ?_
  rintro r w1 ⟨rfl, hb1⟩
  have c0 : w1.cell? ⟨w.heap.size, 0, none⟩ = some (.int .i64 c) := by rw [hb1.cell (by simp)]; simp [go_sem]
  have c1 : w1.cell? ⟨w.heap.size, 1, none⟩ = some (.bool m) := by rw [hb1.cell (by simp)]; simp [go_sem]
  have c2 : w1.cell? ⟨w.heap.size, 2, none⟩ = some (.int .i64 t) := by rw [hb1.cell (by simp)]; simp [go_sem]
  have c3 : w1.cell? ⟨w.heap.size, 3, none⟩ = some (.string s) := by rw [hb1.cell (by simp)]; simp [go_sem]
  have HB : Below w.heap.size w w1 := ((Below.refl _ _).alloc (Nat.le_refl _) _).trans (hb1.mono (by simp))
  clear hb1
  go_wp2_with fail
  refine (H2 _).out.mono ?_
  rintro r w2 ⟨rfl, hb2⟩
  replace HB := HB.trans (hb2.mono HB.size)
  clear hb2
  go_wp2_with fail
  go_ret
  exact ⟨rfl, HB⟩
end Go.Proofs.Yteloiehknhapfaa
