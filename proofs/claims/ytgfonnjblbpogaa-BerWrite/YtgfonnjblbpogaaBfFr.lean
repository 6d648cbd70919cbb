import Derived.Test.YtgfonnjblbpogaaBwC
import Derived.Test.YtgfonnjblbpogaaBJoin4
namespace Go.Proofs.Ytgfonnjblbpogaa
open Go.RowKit
set_option linter.unusedVariables false

set_option maxRecDepth 100000 in
set_option maxHeartbeats 4000000 in
theorem rfront_any (a : Option Addr) (n c : Nat) (D C T : Nat → Int) (M : Nat → Bool) (B : Nat → ByteArray) (i : Nat) (w : World) (hn : IsNodes w a n D C T M B) (hi : i < n) (hl : n ≤ 140737488355328) (hp : ∀ j, i = j + 1 → 1 ≤ D j ∧ D j ≤ 64) :
    Calls Try.prog 38 #[.slice a n c, .int .i64 (i : Int)] w fun r w' => (∃ g, r = .returned (.bool g) ∧ (g = true ↔ NdOk D C T M B i)) ∧ Below w.heap.size w w' := by
  obtain ⟨b, off, rfl, c0, c1, c2, c3, c4⟩ := hn i hi
  have i0 : (0 : Int) ≤ (i : Int) := Int.natCast_nonneg _
  have i1 : (i : Int) < (n : Int) := Int.ofNat_lt.2 hi
  have hok : Hid (NdOk D C T M B i ↔ (lst i ≤ D i ∧ D i ≤ mst D M i ∧ fineB (C i) (T i) = true ∧ (M i = true → (B i).toList.isEmpty = true))) := Iff.rfl
  have hb1 : Hid (Below w.heap.size w (w.alloc (.cells #[.int .i64 (D i), .int .i64 (C i), .bool (M i), .int .i64 (T i), .string (B i)] 39))) := (Below.refl _ _).alloc (Nat.le_refl _) _
  have hF : ∀ W, Hid (Calls Try.prog 57 #[.int .i64 (C i), .int .i64 (T i)] W fun r w' => r = .returned (.bool (fineB (C i) (T i))) ∧ W = w') := fun W => fine_any (C i) (T i) W
  obtain ⟨fb, hfb⟩ : ∃ x, fineB (C i) (T i) = x := ⟨_, rfl⟩
  rw [hfb] at hok hF
  have hnn : Hid (IsNodes w (some ⟨b, off, none⟩) n D C T M B) := hn
  generalize hC : C i = cl at *
  generalize hT : T i = t at *
  generalize hM : M i = m at *
  generalize hB : B i = s at *
  clear hn hC hT hM hB hfb
  cases fb with
  | false =>
    have hno : Hid (¬ NdOk D C T M B i) := fun h => by have := (hok.out.1 h).2.2.1; cases this
    clear hok hp hnn
    generalize D i = d at *
    go_enter Try.func38, Try.ntmps38
    go_wp2_with (go_at_call 57; refine (hF _).out.mono ?_; rintro r w' ⟨rfl, rfl⟩)
    go_ret
    exact ⟨⟨false, rfl, fun h => (by cases h), fun h => absurd h hno.out⟩, hb1.out⟩
  | true =>
    by_cases hme : m = true ∧ ¬ s.toList.isEmpty = true
    · obtain ⟨rfl, hse⟩ := hme
      have hno : Hid (¬ NdOk D C T M B i) := fun h => hse ((hok.out.1 h).2.2.2 rfl)
      have em : (s.toList == []) = false := by simpa using hse
      clear hok hp hnn hse
      generalize D i = d at *
      go_enter Try.func38, Try.ntmps38
      go_wp2_with (go_at_call 57; refine (hF _).out.mono ?_; rintro r w' ⟨rfl, rfl⟩)
      go_ret
      exact ⟨⟨false, rfl, fun h => (by cases h), fun h => absurd h hno.out⟩, hb1.out⟩
    · have hme' : Hid (m = true → s.toList.isEmpty = true) := fun h => by
        by_cases q : s.toList.isEmpty = true
        · exact q
        · exact absurd ⟨h, q⟩ hme
      have em : m = true → (s.toList == []) = true := fun h => by simpa using hme'.out h
      clear hme
      have hok2 : Hid (NdOk D C T M B i ↔ (lst i ≤ D i ∧ D i ≤ mst D M i)) := ⟨fun h => ⟨(hok.out.1 h).1, (hok.out.1 h).2.1⟩, fun h => hok.out.2 ⟨h.1, h.2, rfl, hme'.out⟩⟩
      clear hok hme'
      rcases Nat.eq_zero_or_pos i with hi0 | hi0
      · have hz : ((i : Int) == 0) = true := by rw [hi0]; rfl
        have hok3 : Hid ((D i == 1) = true ↔ NdOk D C T M B i) := by
          unfold Hid
          rw [hok2.out, beq_iff_eq]
          subst hi0
          show _ ↔ (1 ≤ D 0 ∧ D 0 ≤ 1)
          omega
        clear hok2 hp hnn hi0
        obtain ⟨d, hd⟩ : ∃ d, D i = d := ⟨_, rfl⟩
        rw [hd] at hok3 c0 hb1
        clear hd
        cases m with
        | true =>
          have em' := em rfl
          clear em
          go_enter Try.func38, Try.ntmps38
          go_wp2_with (go_at_call 57; refine (hF _).out.mono ?_; rintro r w' ⟨rfl, rfl⟩)
          go_ret
          exact ⟨⟨_, rfl, hok3.out⟩, hb1.out⟩
        | false =>
          clear em
          go_enter Try.func38, Try.ntmps38
          go_wp2_with (go_at_call 57; refine (hF _).out.mono ?_; rintro r w' ⟨rfl, rfl⟩)
          go_ret
          exact ⟨⟨_, rfl, hok3.out⟩, hb1.out⟩
      · obtain ⟨j, hj⟩ : ∃ j, i = j + 1 := ⟨i - 1, by omega⟩
        have hz : ((i : Int) == 0) = false := by rw [beq_eq_false_iff_ne]; omega
        have hjw : Hid (wrap64 ((i : Int) - 1) = (j : Int)) := by unfold Hid wrap64; omega
        obtain ⟨b', off', hbb, p0, p1, p2, p3, p4⟩ := hnn.out j (by omega)
        injection hbb with hbb
        injection hbb with hbb1 hbb2
        subst hbb1 hbb2
        obtain ⟨hp1, hp2⟩ := hp j hj
        have hdw : Hid (wrap64 (D j + 1) = D j + 1) := by unfold Hid wrap64; omega
        have hok3 : Hid (NdOk D C T M B i ↔ (2 ≤ D i ∧ D i ≤ D j + (if M j = true then 1 else 0))) := by
          unfold Hid
          rw [hok2.out]
          subst hj
          exact Iff.rfl
        have hb2 : Hid (Below w.heap.size w ((w.alloc (.cells #[.int .i64 (D i), .int .i64 cl, .bool m, .int .i64 t, .string s] 39)).alloc (.cells #[.int .i64 (D j), .int .i64 (C j), .bool (M j), .int .i64 (T j), .string (B j)] 39))) := hb1.out.alloc hb1.out.size _
        have j0 : (0 : Int) ≤ (j : Int) := Int.natCast_nonneg _
        have j1 : (j : Int) < (n : Int) := by omega
        obtain ⟨d, hd⟩ : ∃ d, D i = d := ⟨_, rfl⟩
        rw [hd] at hok3 c0 hb1 hb2
        generalize D j = e at *
        generalize C j = cj at *
        generalize T j = tj at *
        generalize M j = mj at *
        generalize B j = bj at *
        have hbl : b < w.heap.size := World.block_lt_of_cell? w _ c0
        have r0 : (w.alloc (.cells #[.int .i64 d, .int .i64 cl, .bool m, .int .i64 t, .string s] 39)).cell? ⟨b, off + j * 5, none⟩ = some (.int .i64 e) := by rw [World.cell?_alloc_past _ _ _ (by exact hbl)]; exact p0
        have r1 : (w.alloc (.cells #[.int .i64 d, .int .i64 cl, .bool m, .int .i64 t, .string s] 39)).cell? ⟨b, off + j * 5 + 1, none⟩ = some (.int .i64 cj) := by rw [World.cell?_alloc_past _ _ _ (by exact hbl)]; exact p1
        have r2 : (w.alloc (.cells #[.int .i64 d, .int .i64 cl, .bool m, .int .i64 t, .string s] 39)).cell? ⟨b, off + j * 5 + 2, none⟩ = some (.bool mj) := by rw [World.cell?_alloc_past _ _ _ (by exact hbl)]; exact p2
        have r3 : (w.alloc (.cells #[.int .i64 d, .int .i64 cl, .bool m, .int .i64 t, .string s] 39)).cell? ⟨b, off + j * 5 + 3, none⟩ = some (.int .i64 tj) := by rw [World.cell?_alloc_past _ _ _ (by exact hbl)]; exact p3
        have r4 : (w.alloc (.cells #[.int .i64 d, .int .i64 cl, .bool m, .int .i64 t, .string s] 39)).cell? ⟨b, off + j * 5 + 4, none⟩ = some (.string bj) := by rw [World.cell?_alloc_past _ _ _ (by exact hbl)]; exact p4
        have hjw' := hjw.out
        have hdw' := hdw.out
        clear hok2 hp hnn hi0 hd hj hjw hdw hp1 hp2 hl hi
        by_cases q1 : d < 2
        · have hno : Hid (¬ NdOk D C T M B i) := fun h => by have := (hok3.out.1 h).1; omega
          clear hok3
          cases m with
          | true =>
            have em' := em rfl
            clear em
            go_enter Try.func38, Try.ntmps38
            go_wp2_with (go_at_call 57; refine (hF _).out.mono ?_; rintro r w' ⟨rfl, rfl⟩)
            go_ret
            exact ⟨⟨false, rfl, fun h => (by cases h), fun h => absurd h hno.out⟩, hb2.out⟩
          | false =>
            clear em
            go_enter Try.func38, Try.ntmps38
            go_wp2_with (go_at_call 57; refine (hF _).out.mono ?_; rintro r w' ⟨rfl, rfl⟩)
            go_ret
            exact ⟨⟨false, rfl, fun h => (by cases h), fun h => absurd h hno.out⟩, hb2.out⟩
        by_cases q2 : d > e + 1
        · have hno : Hid (¬ NdOk D C T M B i) := fun h => by have := (hok3.out.1 h).2; split at this <;> omega
          clear hok3
          cases m with
          | true =>
            have em' := em rfl
            clear em
            go_enter Try.func38, Try.ntmps38
            go_wp2_with (go_at_call 57; refine (hF _).out.mono ?_; rintro r w' ⟨rfl, rfl⟩)
            go_ret
            exact ⟨⟨false, rfl, fun h => (by cases h), fun h => absurd h hno.out⟩, hb2.out⟩
          | false =>
            clear em
            go_enter Try.func38, Try.ntmps38
            go_wp2_with (go_at_call 57; refine (hF _).out.mono ?_; rintro r w' ⟨rfl, rfl⟩)
            go_ret
            exact ⟨⟨false, rfl, fun h => (by cases h), fun h => absurd h hno.out⟩, hb2.out⟩
        by_cases q3 : d ≤ e
        · have hyes : Hid (NdOk D C T M B i) := hok3.out.2 ⟨by omega, by split <;> omega⟩
          clear hok3
          cases m with
          | true =>
            have em' := em rfl
            clear em
            go_enter Try.func38, Try.ntmps38
            go_wp2_with (go_at_call 57; refine (hF _).out.mono ?_; rintro r w' ⟨rfl, rfl⟩)
            go_ret
            exact ⟨⟨true, rfl, fun _ => hyes.out, fun _ => rfl⟩, hb2.out⟩
          | false =>
            clear em
            go_enter Try.func38, Try.ntmps38
            go_wp2_with (go_at_call 57; refine (hF _).out.mono ?_; rintro r w' ⟨rfl, rfl⟩)
            go_ret
            exact ⟨⟨true, rfl, fun _ => hyes.out, fun _ => rfl⟩, hb2.out⟩
        · have hok4 : Hid (mj = true ↔ NdOk D C T M B i) := by
            unfold Hid
            rw [hok3.out]
            constructor
            · intro h; rw [if_pos h]; omega
            · intro h
              by_cases q : mj = true
              · exact q
              · rw [if_neg q] at h; omega
          clear hok3
          cases m with
          | true =>
            have em' := em rfl
            clear em
            go_enter Try.func38, Try.ntmps38
            go_wp2_with (go_at_call 57; refine (hF _).out.mono ?_; rintro r w' ⟨rfl, rfl⟩)
            go_ret
            exact ⟨⟨_, rfl, by rw [decide_eq_false (Int.not_le.2 q3), Bool.false_or]; exact hok4.out⟩, hb2.out⟩
          | false =>
            clear em
            go_enter Try.func38, Try.ntmps38
            go_wp2_with (go_at_call 57; refine (hF _).out.mono ?_; rintro r w' ⟨rfl, rfl⟩)
            go_ret
            exact ⟨⟨_, rfl, by rw [decide_eq_false (Int.not_le.2 q3), Bool.false_or]; exact hok4.out⟩, hb2.out⟩
end Go.Proofs.Ytgfonnjblbpogaa
