import Derived.Test.YthaonpmmfennhaaBhNodes
import Derived.Test.YthaonpmmfennhaaBhSpB
namespace Go.Proofs.Ythaonpmmfennhaa
open Go.RowKit
set_option linter.unusedVariables false

/-- The depths that a node may have, by what stands ahead of it. -/
def lst : Nat → Int
  | 0 => 1
  | _ + 1 => 2
def mst (D : Nat → Int) (M : Nat → Bool) : Nat → Int
  | 0 => 1
  | j + 1 => D j + (if M j = true then 1 else 0)
/-- May the node stand where it does? -/
def NdOk (D C T : Nat → Int) (M : Nat → Bool) (B : Nat → ByteArray) (i : Nat) : Prop := lst i ≤ D i ∧ D i ≤ mst D M i ∧ fineB (C i) (T i) = true ∧ (M i = true → (B i).toList.isEmpty = true)
def Fit (D C T : Nat → Int) (M : Nat → Bool) (B : Nat → ByteArray) (i : Nat) : Prop := NdOk D C T M B i ∧ D i ≤ 64
theorem fit_iff (n : Nat) (D C T : Nat → Int) (M : Nat → Bool) (B : Nat → ByteArray) : (∀ i, i < n → Fit D C T M B i) ↔ ∀ i, i < n → Good D C T M B i := by
  have hf : ∀ c t : Int, fineB c t = true ↔ (0 ≤ c ∧ c ≤ 3 ∧ 0 ≤ t ∧ t ≤ 30) := fun c t => by
    unfold fineB
    simp only [Bool.and_eq_true, decide_eq_true_eq]
    constructor
    · rintro ⟨⟨⟨a, b⟩, c⟩, d⟩; exact ⟨a, b, c, d⟩
    · rintro ⟨a, b, c, d⟩; exact ⟨⟨⟨a, b⟩, c⟩, d⟩
  have one : ∀ i, Fit D C T M B i ↔ Good D C T M B i := fun i => by
    unfold Fit NdOk Good
    rw [hf]
    cases i with
    | zero =>
      show (1 ≤ D 0 ∧ D 0 ≤ 1 ∧ _) ∧ _ ↔ _
      constructor
      · rintro ⟨⟨h1, h2, ⟨c1, c2, c3, c4⟩, h4⟩, h5⟩
        exact ⟨c1, c2, c3, c4, h1, h5, h4, fun _ => by omega, fun j hj => by omega⟩
      · rintro ⟨c1, c2, c3, c4, h1, h5, h4, h6, _⟩
        have := h6 rfl
        exact ⟨⟨h1, by omega, ⟨c1, c2, c3, c4⟩, h4⟩, h5⟩
    | succ j =>
      show (2 ≤ D (j + 1) ∧ D (j + 1) ≤ D j + (if M j = true then 1 else 0) ∧ _) ∧ _ ↔ _
      constructor
      · rintro ⟨⟨h1, h2, ⟨c1, c2, c3, c4⟩, h4⟩, h5⟩
        refine ⟨c1, c2, c3, c4, by omega, h5, h4, fun h => by omega, fun j' hj' => ?_⟩
        obtain rfl : j = j' := by omega
        cases hM : M j with
        | true => rw [hM, if_pos rfl] at h2; exact ⟨h1, h2, fun _ => rfl⟩
        | false => rw [hM, if_neg (by decide)] at h2; exact ⟨h1, by omega, fun q => by omega⟩
      · rintro ⟨c1, c2, c3, c4, h1, h5, h4, _, h6⟩
        obtain ⟨q1, q2, q3⟩ := h6 j rfl
        refine ⟨⟨q1, ?_, ⟨c1, c2, c3, c4⟩, h4⟩, h5⟩
        cases hM : M j with
        | true => rw [if_pos rfl]; exact q2
        | false =>
          rw [if_neg (by decide)]
          by_cases q : D j < D (j + 1)
          · rw [q3 q] at hM; cases hM
          · omega
  exact ⟨fun h i hi => (one i).1 (h i hi), fun h i hi => (one i).2 (h i hi)⟩
theorem wr_up (k : Nat) (h : k ≤ 140737488355328) : wrap64 ((k : Int) + 1) = (k : Int) + 1 := by unfold wrap64; omega
theorem wr_d (d : Int) (h : 1 ≤ d) (h' : d ≤ 64) : wrap64 (d + 1) = d + 1 := by unfold wrap64; omega
/-- What checking a list answers. -/
def CkR (n : Nat) (D C T : Nat → Int) (M : Nat → Bool) (B : Nat → ByteArray) (c q : Int) : Prop :=
  (0 < n ∧ (∀ i, i < n → Fit D C T M B i) ∧ c = 0 ∧ q = 0) ∨ (n = 0 ∧ c = 28 ∧ q = 0) ∨
  (∃ i, i < n ∧ (∀ j, j < i → Fit D C T M B j) ∧ q = (i : Int) ∧ ((¬ NdOk D C T M B i ∧ c = 28) ∨ (NdOk D C T M B i ∧ ¬ D i ≤ 64 ∧ c = 25)))
def CkE (e : Ending) (n : Nat) (D C T : Nat → Int) (M : Nat → Bool) (B : Nat → ByteArray) : Prop := ∃ c q : Int, e = .returned (.tuple #[.int .i64 c, .int .i64 q]) ∧ CkR n D C T M B c q

set_option maxRecDepth 100000 in
set_option maxHeartbeats 4000000 in
theorem checkTree_any (a : Option Addr) (n c : Nat) (D C T : Nat → Int) (M : Nat → Bool) (B : Nat → ByteArray) (w : World) (hn : IsNodes w a n D C T M B) (hl : n ≤ 140737488355328) :
    Calls Try.prog 29 #[.slice a n c] w fun e w' => CkE e n D C T M B ∧ Below w.heap.size w w' := by
  have hn' : Hid (IsNodes w a n D C T M B) := hn
  have hl' : Hid (n ≤ 140737488355328) := hl
  clear hn hl
  by_cases hn0 : n = 0
  · subst hn0
    go_enter Try.func29, Try.ntmps29
    go_wp2_with fail
    go_ret2
    exact ⟨⟨28, 0, rfl, Or.inr (Or.inl ⟨rfl, rfl, rfl⟩)⟩, Below.refl _ _⟩
  have e0n : ((n : Int) == 0) = false := by rw [beq_eq_false_iff_ne]; omega
  have hpos : Hid (0 < n) := by unfold Hid; omega
  clear hn0
  go_enter Try.func29, Try.ntmps29
  go_wp2_with fail
  go_loopw [4, 5, 13] (fun lv mv iv wr => ∃ (k : Nat), k ≤ n ∧ iv = .int .i64 (k : Int) ∧ lv = .int .i64 (lst k) ∧ mv = .int .i64 (mst D M k) ∧ Hid ((∀ i, i < k → Fit D C T M B i) ∧ Below w.heap.size w wr)) (fun _ _ iv _ => n - (intOf iv).toNat)
  case atStart => exact ⟨0, Nat.zero_le _, rfl, rfl, rfl, fun i hi => by omega, Below.refl _ _⟩
  case round =>
    obtain ⟨k, hk, rfl, rfl, rfl, HI⟩ := hrel
    have i0 : (0 : Int) ≤ (k : Int) := Int.natCast_nonneg _
    by_cases hlt : k < n
    · have i1 : (k : Int) < (n : Int) := Int.ofNat_lt.2 hlt
      obtain ⟨b, off, rfl, c0, c1, c2, c3, c4⟩ := (hn'.out.below HI.out.2) k hlt
      have hB1 : Hid (Below w.heap.size w (wr.alloc (.cells #[.int .i64 (D k), .int .i64 (C k), .bool (M k), .int .i64 (T k), .string (B k)] 40))) := HI.out.2.alloc HI.out.2.size _
      have hbad : Hid (¬ NdOk D C T M B k → CkR n D C T M B 28 (k : Int)) := fun h => Or.inr (Or.inr ⟨k, hlt, HI.out.1, rfl, Or.inl ⟨h, rfl⟩⟩)
      have hdeep : Hid (NdOk D C T M B k → ¬ D k ≤ 64 → CkR n D C T M B 25 (k : Int)) := fun h h' => Or.inr (Or.inr ⟨k, hlt, HI.out.1, rfl, Or.inr ⟨h, h', rfl⟩⟩)
      have hnext : Hid (NdOk D C T M B k → D k ≤ 64 → ∀ i, i < k + 1 → Fit D C T M B i) := fun h h' i hi => by
        by_cases e : i = k
        · subst e; exact ⟨h, h'⟩
        · exact HI.out.1 i (by omega)
      have hok : Hid (NdOk D C T M B k ↔ (lst k ≤ D k ∧ D k ≤ mst D M k ∧ fineB (C k) (T k) = true ∧ (M k = true → (B k).toList.isEmpty = true))) := Iff.rfl
      have hmn : Hid (mst D M (k + 1) = D k + (if M k = true then 1 else 0) ∧ lst (k + 1) = 2) := ⟨rfl, rfl⟩
      have hge : Hid (1 ≤ lst k) := by unfold Hid; cases k with
        | zero => exact Int.le_refl _
        | succ k => show (1 : Int) ≤ 2; decide
      obtain ⟨lo, hlo⟩ : ∃ x, lst k = x := ⟨_, rfl⟩
      obtain ⟨hi, hhi⟩ : ∃ x, mst D M k = x := ⟨_, rfl⟩
      obtain ⟨d, hd⟩ : ∃ x, D k = x := ⟨_, rfl⟩
      obtain ⟨cl, hc⟩ : ∃ x, C k = x := ⟨_, rfl⟩
      obtain ⟨t, ht⟩ : ∃ x, T k = x := ⟨_, rfl⟩
      obtain ⟨m, hm⟩ : ∃ x, M k = x := ⟨_, rfl⟩
      obtain ⟨s, hs⟩ : ∃ x, B k = x := ⟨_, rfl⟩
      rw [hlo] at hge
      rw [hlo, hhi, hd, hc, ht, hm, hs] at hok
      rw [hd, hm] at hmn
      rw [hd] at c0 hdeep hnext hB1
      rw [hc] at c1 hB1
      rw [hm] at c2 hB1
      rw [ht] at c3 hB1
      rw [hs] at c4 hB1
      rw [hlo, hhi]
      obtain ⟨fb, hfb⟩ : ∃ x, fineB cl t = x := ⟨_, rfl⟩
      have HW : ∀ W, Hid (Calls Try.prog 43 #[.int .i64 cl, .int .i64 t] W fun r w' => r = .returned (.bool fb) ∧ W = w') := fun W => by rw [← hfb]; exact writable_any cl t W
      rw [hfb] at hok
      have hkw : Hid (wrap64 ((k : Int) + 1) = (k : Int) + 1) := wr_up k (by have := hl'.out; omega)
      have hlt' : Hid (k < n) := hlt
      clear hlo hhi hd hc ht hm hs hfb hlt hk HI hn'
      by_cases q1 : d < lo
      · have hfin : Hid (CkR n D C T M B 28 (k : Int)) := hbad.out (fun h => by have := (hok.out.1 h).1; omega)
        clear hbad hdeep hnext hok hmn hge
        go_wp2_with fail
        go_ret2
        exact ⟨⟨28, k, rfl, hfin.out⟩, hB1.out⟩
      by_cases q2 : d > hi
      · have hfin : Hid (CkR n D C T M B 28 (k : Int)) := hbad.out (fun h => by have := (hok.out.1 h).2.1; omega)
        clear hbad hdeep hnext hok hmn hge
        go_wp2_with fail
        go_ret2
        exact ⟨⟨28, k, rfl, hfin.out⟩, hB1.out⟩
      cases fb with
      | false =>
        have hfin : Hid (CkR n D C T M B 28 (k : Int)) := hbad.out (fun h => by have := (hok.out.1 h).2.2.1; cases this)
        clear hbad hdeep hnext hok hmn hge
        go_wp2_with (go_at_call 43; refine (HW _).out.mono ?_; rintro r w5 ⟨rfl, rfl⟩)
        go_ret2
        exact ⟨⟨28, k, rfl, hfin.out⟩, hB1.out⟩
      | true =>
        by_cases q3 : m = true ∧ s.toList.isEmpty = false
        · obtain ⟨rfl, q4⟩ := q3
          have hfin : Hid (CkR n D C T M B 28 (k : Int)) := hbad.out (fun h => by have := (hok.out.1 h).2.2.2 rfl; rw [q4] at this; cases this)
          have q5 : (s.toList == []) = false := by
            cases hh : s.toList with
            | nil => rw [hh] at q4; cases q4
            | cons x l => rfl
          clear hbad hdeep hnext hok hmn hge
          go_wp2_with (go_at_call 43; refine (HW _).out.mono ?_; rintro r w5 ⟨rfl, rfl⟩)
          go_ret2
          exact ⟨⟨28, k, rfl, hfin.out⟩, hB1.out⟩
        · have hme : m = true → s.toList.isEmpty = true := fun h => by
            cases he : s.toList.isEmpty with
            | true => rfl
            | false => exact absurd ⟨h, he⟩ q3
          have hOK := hok.out.2 ⟨by omega, by omega, rfl, hme⟩
          have hdeep' : Hid (¬ d ≤ 64 → CkR n D C T M B 25 (k : Int)) := hdeep.out hOK
          have hnext' : Hid (d ≤ 64 → ∀ i, i < k + 1 → Fit D C T M B i) := hnext.out hOK
          have hlo1 : Hid (1 ≤ d) := by unfold Hid; have := hge.out; omega
          have hm2 : Hid (mst D M (k + 1) = d + (if m = true then 1 else 0) ∧ lst (k + 1) = 2) := hmn.out
          have hem : m = false ∨ (m = true ∧ (s.toList == []) = true) := by
            cases m with
            | false => exact Or.inl rfl
            | true => exact Or.inr ⟨rfl, by rw [List.isEmpty_iff.1 (hme rfl)]; rfl⟩
          clear hbad hdeep hnext hok hmn hge hOK hme q3
          by_cases q6 : d > 64
          · have hfin : Hid (CkR n D C T M B 25 (k : Int)) := hdeep'.out (by omega)
            clear hdeep' hnext' hm2 hlo1
            rcases hem with rfl | ⟨rfl, q7⟩
            all_goals
              go_wp2_with (go_at_call 43; refine (HW _).out.mono ?_; rintro r w5 ⟨rfl, rfl⟩)
              go_ret2
              exact ⟨⟨25, k, rfl, hfin.out⟩, hB1.out⟩
          · have hfin : Hid (∀ i, i < k + 1 → Fit D C T M B i) := hnext'.out (by omega)
            have hdw : Hid (wrap64 (d + 1) = d + 1) := wr_d (d) hlo1.out (by omega)
            clear hdeep' hnext' hlo1
            rcases hem with rfl | ⟨rfl, q7⟩
            · have q8 : (wr.alloc (.cells #[.int .i64 d, .int .i64 cl, .bool false, .int .i64 t, .string s] 40)).cell? ⟨wr.heap.size, 0, none⟩ = some (.int .i64 d) := by simp [go_sem]
              have hkw2 := hkw.out
              go_wp2_with (go_at_call 43; refine (HW _).out.mono ?_; rintro r w5 ⟨rfl, rfl⟩)
              go_quiet (fail)
              go_wp2_with fail
              refine ⟨⟨k + 1, hlt'.out, congrArg (Value.int .i64) (by rw [hkw2]; omega), by rw [hm2.out.2], by rw [hm2.out.1]; simp, hfin.out, by first | exact belowN hB1.out _ | exact hB1.out⟩, ?_⟩
              rw [hkw2]
              have := hlt'.out
              simp [intOf]
              omega
            · have q8 : (wr.alloc (.cells #[.int .i64 d, .int .i64 cl, .bool true, .int .i64 t, .string s] 40)).cell? ⟨wr.heap.size, 0, none⟩ = some (.int .i64 d) := by simp [go_sem]
              have hkw2 := hkw.out
              have hdw2 := hdw.out
              go_wp2_with (go_at_call 43; refine (HW _).out.mono ?_; rintro r w5 ⟨rfl, rfl⟩)
              go_quiet (fail)
              go_wp2_with fail
              refine ⟨⟨k + 1, hlt'.out, congrArg (Value.int .i64) (by rw [hkw2]; omega), by rw [hm2.out.2], by rw [hm2.out.1, hdw2]; simp, hfin.out, by first | exact belowN hB1.out _ | exact hB1.out⟩, ?_⟩
              rw [hkw2]
              have := hlt'.out
              simp [intOf]
              omega
    · obtain rfl : k = n := by omega
      have i1 : ¬ (k : Int) < (k : Int) := by omega
      have hfin : Hid (CkR k D C T M B 0 0 ∧ Below w.heap.size w wr) := ⟨Or.inl ⟨hpos.out, HI.out.1, rfl, rfl⟩, HI.out.2⟩
      clear hn' HI
      go_wp2_with fail
      go_ret2
      exact ⟨⟨0, 0, rfl, hfin.out.1⟩, hfin.out.2⟩
end Go.Proofs.Ythaonpmmfennhaa
