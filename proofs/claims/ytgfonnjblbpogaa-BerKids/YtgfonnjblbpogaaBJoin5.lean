import Derived.Test.YtgfonnjblbpogaaBJoin4
namespace Go.Proofs.Ytgfonnjblbpogaa
open Go.RowKit
open BerMath (lo)

/-- An element as a value. -/
abbrev elV (c : Int) (m : Bool) (t : Int) (s : ByteArray) : Value := .agg #[.int .i64 c, .bool m, .int .i64 t, .string s]
/-- What Join answers. -/
def joinV (c : Int) (m : Bool) (t : Int) (s : ByteArray) : Value :=
  if fineB c t = false then .tuple #[.string ⟨#[]⟩, .int .i64 28]
  else if 4294967295 < s.size then .tuple #[.string ⟨#[]⟩, .int .i64 24]
  else .tuple #[.string (S (fb c.toNat m t.toNat :: lenB s.size ++ s.data.toList)), .int .i64 0]

set_option maxHeartbeats 1000000 in
theorem join_bad (c : Int) (m : Bool) (t : Int) (s : ByteArray) (w : World) (h : fineB c t = false) :
    Calls Try.prog 19 #[elV c m t s] w fun r w' => r = .returned (.tuple #[.string ⟨#[]⟩, .int .i64 28]) ∧ Below w.heap.size w w' := by
  have H1 : ∀ W, Hid (Calls Try.prog 48 #[.int .i64 c, .int .i64 t] W fun r w' => r = .returned (.bool false) ∧ W = w') := fun W => by have := writable_any c t W; rw [h] at this; exact this
  go_enter Try.func19, Try.ntmps19
  go_wp2_with (go_at_call 48; refine (H1 _).out.mono ?_; rintro r w1 ⟨rfl, rfl⟩)
  go_ret2
  exact ⟨rfl, (Below.refl _ _).alloc (Nat.le_refl _) _⟩
set_option maxHeartbeats 1000000 in
theorem join_big (c : Int) (m : Bool) (t : Int) (s : ByteArray) (w : World) (h : fineB c t = true) (h2 : 4294967295 < s.size) :
    Calls Try.prog 19 #[elV c m t s] w fun r w' => r = .returned (.tuple #[.string ⟨#[]⟩, .int .i64 24]) ∧ Below w.heap.size w w' := by
  have H1 : ∀ W, Hid (Calls Try.prog 48 #[.int .i64 c, .int .i64 t] W fun r w' => r = .returned (.bool true) ∧ W = w') := fun W => by have := writable_any c t W; rw [h] at this; exact this
  have H2 : ∀ W, Hid (Calls Try.prog 49 #[.int .i64 (s.size : Int)] W fun r w' => r = .returned (.bool true) ∧ W = w') := fun W => by
    have := tooLong_any s.size W
    rw [decide_eq_true (by omega : (4294967295 : Int) < (s.size : Int))] at this
    exact this
  clear h2
  go_enter Try.func19, Try.ntmps19
  go_wp2_with (first | (go_at_call 48; refine (H1 _).out.mono ?_; rintro r w1 ⟨rfl, rfl⟩) | (go_at_call 49; refine (H2 _).out.mono ?_; rintro r w1 ⟨rfl, rfl⟩))
  go_ret2
  exact ⟨rfl, (Below.refl _ _).alloc (Nat.le_refl _) _⟩

set_option maxHeartbeats 2000000 in
theorem join_good (c t : Nat) (m : Bool) (s : ByteArray) (w : World) (hc : c ≤ 3) (ht : t ≤ 30) (h : fineB (c : Int) (t : Int) = true) (h2 : s.size ≤ 4294967295) :
    Calls Try.prog 19 #[elV (c : Int) m (t : Int) s] w fun r w' => r = .returned (.tuple #[.string (S (fb c m t :: lenB s.size ++ s.data.toList)), .int .i64 0]) ∧ Below w.heap.size w w' := by
  have H1 : ∀ W, Hid (Calls Try.prog 48 #[.int .i64 (c : Int), .int .i64 (t : Int)] W fun r w' => r = .returned (.bool true) ∧ W = w') := fun W => by have := writable_any c t W; rw [h] at this; exact this
  have H2 : ∀ W, Hid (Calls Try.prog 49 #[.int .i64 (s.size : Int)] W fun r w' => r = .returned (.bool false) ∧ W = w') := fun W => by
    have := tooLong_any s.size W
    rw [decide_eq_false (by omega : ¬ (4294967295 : Int) < (s.size : Int))] at this
    exact this
  have h4 : ll s.size ≤ 4 := by have := ll_cases s.size; omega
  obtain ⟨N, hN⟩ : ∃ N, N = 2 + ll s.size := ⟨_, rfl⟩
  have H3 : ∀ W, Hid (Calls Try.prog 50 #[.int .i64 (s.size : Int)] W fun r w' => r = .returned (.int .i64 (N : Int)) ∧ W = w') := fun W => by rw [hN]; exact headerSize_any s.size W
  obtain ⟨M, hM⟩ : ∃ M, M = N + s.size := ⟨_, rfl⟩
  have hw : wrap64 ((N : Int) + (s.size : Int)) = (M : Int) := by unfold wrap64; omega
  have hwi : IntKind.i64.wrap ((N : Int) + (s.size : Int)) = (M : Int) := by rw [IntKind.wrap_i64]; omega
  have hmk := mk_cap M (by omega)
  have hM' : Hid (M ≤ 140737488355328) := by unfold Hid; omega
  have h2' : Hid (s.size ≤ 4294967295) := h2
  clear h4 hN hM h2 h
  go_enter Try.func19, Try.ntmps19
  go_wp2_with (first | (go_at_call 48; refine (H1 _).out.mono ?_; rintro r w1 ⟨rfl, rfl⟩) | (go_at_call 49; refine (H2 _).out.mono ?_; rintro r w1 ⟨rfl, rfl⟩))
  go_region_with (go_at_call 50; refine (H3 _).out.mono ?_; rintro r w1 ⟨rfl, rfl⟩)
  all_goals
    have hown : Own (((w.alloc (.cells #[.int .i64 (c : Int), .bool m, .int .i64 (t : Int), .string s] 56)).alloc (.cells (madeCells #[.int .u8 0] M) 5)).drew) (w.heap.size + 1) (.slice (some ⟨w.heap.size + 1, 0, none⟩) 0 M) [] := by
      have h1 := own_made (w.alloc (.cells #[.int .i64 (c : Int), .bool m, .int .i64 (t : Int), .string s] 56)) (w.heap.size + 1) M (by simp) hM'.out
      simp only [World.size_alloc] at h1
      exact World.ownsRow.drew h1
    have hHd := putHeader_any (w.heap.size + 1) _ [] c t m s.size _ hown (by simp) (by simp) hc ht
    go_wp2_with fail
    refine hHd.mono ?_
    rintro r w1 ⟨v1, rfl, hown1, hb1⟩
    rw [List.nil_append] at hown1
    have n1 : w.heap.size + 1 ≤ w1.heap.size := by have := hb1.size; simp at this; omega
    have c3 : w1.cell? ⟨w.heap.size, 3, none⟩ = some (.string s) := by rw [hb1.cell (by simp)]; simp [go_sem]
    have HB : Below w.heap.size w w1 := ((((Below.refl _ _).alloc (Nat.le_refl _) _).alloc (by simp) _).drew).trans (hb1.mono (Nat.le_succ _))
    have hlen : Hid ((fb c m t :: lenB s.size).length + s.size ≤ 1099511627776) := by
      unfold Hid
      rw [List.length_cons, lenB_len]
      have := ll_cases s.size
      have := h2'.out
      omega
    clear hb1 hown hHd
    go_wp2_with (at_builtin; refine push_str _ rfl _ _ rfl (w.heap.size + 1) _ (fb c m t :: lenB s.size) s rfl rfl ?_ ?_ ?_ ?_; (exact hown1); (exact n1); (exact hlen.out); intro v2 w2 hown2 hb2; have hback := own_back_any (P := Try.prog) w2 (w.heap.size + 1) 50 9 5 v2 _ _ Try.underlying50 Try.underlying5 Try.underlying9 hown2; replace HB := HB.trans (hb2.mono (Nat.le_succ _)); clear hown2 hb2)
    go_ret2
    exact ⟨rfl, HB⟩

theorem join_any (c : Int) (m : Bool) (t : Int) (s : ByteArray) (w : World) : Calls Try.prog 19 #[elV c m t s] w fun r w' => r = .returned (joinV c m t s) ∧ Below w.heap.size w w' := by
  unfold joinV
  cases h : fineB c t with
  | false => rw [if_pos rfl]; exact join_bad c m t s w h
  | true =>
    rw [if_neg (by simp)]
    by_cases h2 : 4294967295 < s.size
    · rw [if_pos h2]; exact join_big c m t s w h h2
    · rw [if_neg h2]
      obtain ⟨c', t', rfl, rfl, hc, ht⟩ := fineB_iff c t h
      exact join_good c' t' m s w hc ht h (by omega)
end Go.Proofs.Ytgfonnjblbpogaa
