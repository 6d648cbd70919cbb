import Derived.Test.YtgfonnjblbpogaaBHeadLaw
import Derived.Test.YtgfonnjblbpogaaBhHdM
import Derived.BigQuiet
namespace Go.Proofs.Ytgfonnjblbpogaa
open Go.RowKit
set_option linter.unusedVariables false

/-- What sound answers, and what it means if it is true. -/
def SndR (e : Ending) (n : Nat) (D C T : Nat → Int) (M : Nat → Bool) (B : Nat → ByteArray) : Prop := Ans e (0 < n ∧ ∀ i, i < n → Good D C T M B i)
set_option maxRecDepth 100000 in
set_option maxHeartbeats 4000000 in
theorem sound_any (a : Option Addr) (n c : Nat) (D C T : Nat → Int) (M : Nat → Bool) (B : Nat → ByteArray) (w : World) (hn : IsNodes w a n D C T M B) (hl : n ≤ 140737488355328) :
    Calls Try.prog 10 #[.slice a n c] w fun e w' => SndR e n D C T M B ∧ Below w.heap.size w w' := by
  have hn' : Hid (IsNodes w a n D C T M B) := hn
  clear hn
  go_enter Try.func10, Try.ntmps10
  go_wp2_with fail
  go_loopw [3] (fun iv wr => ∃ (k : Nat), k ≤ n ∧ iv = .int .i64 (k : Int) ∧ Hid (∀ i, i < k → Good D C T M B i) ∧ Hid (Below w.heap.size w wr)) (fun iv _ => n - (intOf iv).toNat)
  case atStart => exact ⟨0, Nat.zero_le _, rfl, by unfold Hid; intro i hi; omega, by unfold Hid; exact Below.refl _ _⟩
  case round =>
    obtain ⟨k, hk, rfl, hg, HB⟩ := hrel
    have i0 : (0 : Int) ≤ (k : Int) := Int.natCast_nonneg _
    by_cases hlt : k < n
    · have i1 : (k : Int) < (n : Int) := Int.ofNat_lt.2 hlt
      obtain ⟨b, off, rfl, e0, e1, e2, e3, e4⟩ := (hn'.out.below HB.out) k hlt
      have hlt' : Hid (k < n ∧ n ≤ 140737488355328) := ⟨hlt, hl⟩
      have kw : wrap64 ((k : Int) + 1) = (k : Int) + 1 := by unfold wrap64; omega
      have HB' : Hid (Below w.heap.size w (wr.alloc (.cells #[.int .i64 (D k), .int .i64 (C k), .bool (M k), .int .i64 (T k), .string (B k)] 39))) := HB.out.alloc HB.out.size _
      have hpre : ∀ j, k = j + 1 → wr.cell? ⟨b, off + j * 5, none⟩ = some (.int .i64 (D j)) ∧ wr.cell? ⟨b, off + j * 5 + 2, none⟩ = some (.bool (M j)) ∧ 1 ≤ D j ∧ D j ≤ 64 := fun j hj => by
        obtain ⟨b', off', e, q0, q1, q2, q3, q4⟩ := (hn'.out.below HB.out) j (by omega)
        injection e with e
        injection e with ea eb
        subst ea eb
        exact ⟨q0, q2, (hg.out j (by omega)).2.2.2.2.1, (hg.out j (by omega)).2.2.2.2.2.1⟩
      obtain ⟨d, hd⟩ : ∃ d, D k = d := ⟨_, rfl⟩
      obtain ⟨cl, hc⟩ : ∃ d, C k = d := ⟨_, rfl⟩
      obtain ⟨t, ht⟩ : ∃ d, T k = d := ⟨_, rfl⟩
      obtain ⟨m, hm⟩ : ∃ d, M k = d := ⟨_, rfl⟩
      obtain ⟨s, hs⟩ : ∃ d, B k = d := ⟨_, rfl⟩
      rw [hd] at e0 HB'
      rw [hc] at e1 HB'
      rw [hm] at e2 HB'
      rw [ht] at e3 HB'
      rw [hs] at e4 HB'
      have hgd : Hid (0 ≤ cl ∧ cl ≤ 3 ∧ 0 ≤ t ∧ t ≤ 30 ∧ 1 ≤ d ∧ d ≤ 64 ∧ (m = true → s.toList.isEmpty = true) ∧ (k = 0 → d = 1) ∧ (∀ j, k = j + 1 → 2 ≤ d ∧ d ≤ D j + 1 ∧ (D j < d → M j = true)) → Good D C T M B k) := by
        unfold Hid Good
        rw [hd, hc, ht, hm, hs]
        exact id
      clear hd hc ht hm hs hl hk hlt hn'
      by_cases c0 : cl < 0
      · clear hpre hg hgd
        go_wp2_with fail
        go_ret
        exact ⟨ans_no rfl, HB'.out⟩
      · have g0 : ¬ cl < 0 := c0
        clear c0
        by_cases c1 : 3 < cl
        · clear hpre hg hgd
          go_wp2_with fail
          go_ret
          exact ⟨ans_no rfl, HB'.out⟩
        · have g1 : ¬ 3 < cl := c1
          clear c1
          by_cases c2 : t < 0
          · clear hpre hg hgd
            go_wp2_with fail
            go_ret
            exact ⟨ans_no rfl, HB'.out⟩
          · have g2 : ¬ t < 0 := c2
            clear c2
            by_cases c3 : 30 < t
            · clear hpre hg hgd
              go_wp2_with fail
              go_ret
              exact ⟨ans_no rfl, HB'.out⟩
            · have g3 : ¬ 30 < t := c3
              clear c3
              by_cases c4 : 64 < d
              · clear hpre hg hgd
                go_wp2_with fail
                go_ret
                exact ⟨ans_no rfl, HB'.out⟩
              · have g4 : ¬ 64 < d := c4
                clear c4
                by_cases c5 : m = true ∧ s.toList.isEmpty = false
                · obtain ⟨rfl, c6⟩ := c5
                  clear hpre hg hgd
                  go_wp2_with fail
                  go_ret
                  exact ⟨ans_no rfl, HB'.out⟩
                · have g5 : Hid (m = true → s.toList.isEmpty = true) := fun h => by
                    cases he : s.toList.isEmpty with
                    | true => rfl
                    | false => exact absurd ⟨h, he⟩ c5
                  have g6 : m = false ∨ (m = true ∧ s.toList.isEmpty = true) := by
                    cases m with
                    | false => exact Or.inl rfl
                    | true => exact Or.inr ⟨rfl, g5.out rfl⟩
                  clear c5
                  by_cases hk0 : k = 0
                  · subst hk0
                    simp only [Nat.zero_mul, Nat.add_zero] at e0 e1 e2 e3 e4
                    by_cases c7 : d = 1
                    · subst c7
                      have hG : Hid (∀ i, i < 0 + 1 → Good D C T M B i) := fun i hi => by
                        obtain rfl : i = 0 := by omega
                        exact hgd.out ⟨by omega, by omega, by omega, by omega, by omega, by omega, g5.out, fun _ => rfl, fun j hj => by omega⟩
                      have q0 : (wr.alloc (.cells #[.int .i64 1, .int .i64 cl, .bool m, .int .i64 t, .string s] 39)).cell? ⟨wr.heap.size, 0, none⟩ = some (.int .i64 1) := by simp [go_sem]
                      clear hpre hg hgd g5
                      rcases g6 with rfl | ⟨rfl, g7⟩
                      all_goals
                        go_wp2_with fail
                        go_quiet (fail)
                        go_wp2_with fail
                        go_quiet (fail)
                        go_wp2_with fail
                        refine ⟨⟨1, hlt'.out.1, rfl, hG, by unfold Hid; first | exact HB'.out | exact belowN HB'.out _ | exact belowN (belowN HB'.out _) _⟩, ?_⟩
                        have := hlt'.out
                        simp [intOf]
                        omega
                    · clear hpre hg hgd g5
                      rcases g6 with rfl | ⟨rfl, g7⟩
                      all_goals
                        go_wp2_with fail
                        go_ret
                        exact ⟨ans_no rfl, HB'.out⟩
                  · obtain ⟨j, hj⟩ : ∃ j, k = j + 1 := ⟨k - 1, by omega⟩
                    obtain ⟨p0, p2, p3, p4⟩ := hpre j hj
                    obtain ⟨dj, hdj⟩ : ∃ d, D j = d := ⟨_, rfl⟩
                    obtain ⟨mj, hmj⟩ : ∃ d, M j = d := ⟨_, rfl⟩
                    rw [hdj] at p0 p3 p4
                    rw [hmj] at p2
                    have w0 : wrap64 (dj + 1) = dj + 1 := by unfold wrap64; omega
                    have w1 : wrap64 ((k : Int) - 1) = (j : Int) := by have := hlt'.out; unfold wrap64; omega
                    have w2 : (k : Int) - 1 = (j : Int) := by omega
                    have j0 : (0 : Int) ≤ (j : Int) := Int.natCast_nonneg _
                    have j1 : (j : Int) < (n : Int) := by have := hlt'.out; omega
                    have j2 : (0 : Int) < (k : Int) := by omega
                    have j3 : ((k : Int) == 0) = false := by rw [beq_eq_false_iff_ne]; omega
                    have j4 : 0 < k := by omega
                    have wj : wrap64 (j : Int) = (j : Int) := by have := hlt'.out; unfold wrap64; omega
                    have hG : Hid (2 ≤ d → d ≤ dj + 1 → (dj < d → mj = true) → ∀ i, i < k + 1 → Good D C T M B i) := fun h1 h2 h3 i hi => by
                      by_cases e : i = k
                      · subst e
                        refine hgd.out ⟨by omega, by omega, by omega, by omega, by omega, by omega, g5.out, fun h => absurd h hk0, fun j' hj' => ?_⟩
                        obtain rfl : j' = j := Nat.succ.inj (hj'.symm.trans hj)
                        rw [hdj, hmj]
                        exact ⟨h1, h2, h3⟩
                      · exact hg.out i (Nat.lt_of_le_of_ne (Nat.le_of_lt_succ hi) e)
                    have w4 : IntKind.i64.wrap (j : Int) = (j : Int) := by rw [Go.IntWalk.i64_left]; exact wj
                    have w5 : IntKind.i64.wrap (dj + 1) = dj + 1 := by rw [Go.IntWalk.i64_left]; exact w0
                    have lb : b < wr.heap.size := World.block_lt_of_cell? wr _ p0
                    have q1f : (wr.alloc (.cells #[.int .i64 d, .int .i64 cl, .bool false, .int .i64 t, .string s] 39)).cell? ⟨b, off + j * 5, none⟩ = some (.int .i64 dj) := (((Below.refl _ _).alloc (Nat.le_refl _) _).cell lb).trans p0
                    have q2f : (wr.alloc (.cells #[.int .i64 d, .int .i64 cl, .bool false, .int .i64 t, .string s] 39)).cell? ⟨b, off + j * 5 + 2, none⟩ = some (.bool mj) := (((Below.refl _ _).alloc (Nat.le_refl _) _).cell lb).trans p2
                    have q1t : (wr.alloc (.cells #[.int .i64 d, .int .i64 cl, .bool true, .int .i64 t, .string s] 39)).cell? ⟨b, off + j * 5, none⟩ = some (.int .i64 dj) := (((Below.refl _ _).alloc (Nat.le_refl _) _).cell lb).trans p0
                    have q2t : (wr.alloc (.cells #[.int .i64 d, .int .i64 cl, .bool true, .int .i64 t, .string s] 39)).cell? ⟨b, off + j * 5 + 2, none⟩ = some (.bool mj) := (((Below.refl _ _).alloc (Nat.le_refl _) _).cell lb).trans p2
                    clear hpre hg hgd g5 hdj hmj hj hk0
                    rcases g6 with rfl | ⟨rfl, g7⟩
                    all_goals
                      go_wp2_with fail
                      by_cases c8 : d < 2
                      · clear hG
                        go_quiet (fail)
                        go_wp2_with fail
                        go_ret
                        exact ⟨ans_no rfl, by first | exact HB'.out | exact belowN HB'.out _ | exact belowN (belowN HB'.out _) _⟩
                      · have z8 : decide (d < 2) = false := decide_eq_false c8
                        by_cases c9 : dj + 1 < d
                        · clear hG
                          go_quiet (fail)
                          go_wp2_with fail
                          go_ret
                          exact ⟨ans_no rfl, by first | exact HB'.out | exact belowN HB'.out _ | exact belowN (belowN HB'.out _) _⟩
                        · by_cases c10 : dj < d
                          · cases mj with
                            | false =>
                              clear hG
                              go_quiet (fail)
                              go_wp2_with fail
                              go_quiet (fail)
                              go_wp2_with fail
                              go_ret
                              exact ⟨ans_no rfl, by first | exact HB'.out | exact belowN HB'.out _ | exact belowN (belowN HB'.out _) _⟩
                            | true =>
                              have hG' := hG.out (by omega) (by omega) (fun _ => rfl)
                              have hG2 : Hid (∀ i, i < k + 1 → Good D C T M B i) := hG'
                              clear hG hG'
                              go_quiet (fail)
                              go_wp2_with fail
                              go_quiet (fail)
                              go_wp2_with fail
                              refine ⟨⟨k + 1, hlt'.out.1, congrArg (Value.int .i64) (by rw [kw]; omega), hG2, by unfold Hid; first | exact HB'.out | exact belowN HB'.out _ | exact belowN (belowN HB'.out _) _⟩, ?_⟩
                              rw [kw]
                              have := hlt'.out
                              simp [intOf]
                              omega
                          · have hG' := hG.out (by omega) (by omega) (fun h => absurd h c10)
                            have z10 : decide (dj < d) = false := decide_eq_false c10
                            have hG2 : Hid (∀ i, i < k + 1 → Good D C T M B i) := hG'
                            clear hG hG'
                            go_quiet (fail)
                            go_wp2_with fail
                            go_quiet (fail)
                            go_wp2_with fail
                            refine ⟨⟨k + 1, hlt'.out.1, congrArg (Value.int .i64) (by rw [kw]; omega), hG2, by unfold Hid; first | exact HB'.out | exact belowN HB'.out _ | exact belowN (belowN HB'.out _) _⟩, ?_⟩
                            rw [kw]
                            have := hlt'.out
                            simp [intOf]
                            omega
    · obtain rfl : k = n := by omega
      have i1 : ¬ (k : Int) < (k : Int) := by omega
      by_cases h0 : 0 < k
      · have i2 : (0 : Int) < (k : Int) := by omega
        clear hn'
        go_wp2_with fail
        go_ret
        exact ⟨ans_yes rfl ⟨h0, hg.out⟩, HB.out⟩
      · have i2 : ¬ (0 : Int) < (k : Int) := by omega
        clear hn'
        go_wp2_with fail
        go_ret
        exact ⟨ans_no rfl, HB.out⟩
end Go.Proofs.Ytgfonnjblbpogaa
