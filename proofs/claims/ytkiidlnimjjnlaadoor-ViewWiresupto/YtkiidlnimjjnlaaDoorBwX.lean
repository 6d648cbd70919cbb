import Derived.Test.YtkiidlnimjjnlaaDoorBhNodes
import Derived.Test.YtkiidlnimjjnlaaDoorBhSpB
import Derived.Test.YtkiidlnimjjnlaaDoorBhSpW
import Derived.BigQuiet
import Derived.Test.YtkiidlnimjjnlaaDoorBJoin3
import Derived.Deep.RegionHeld3
import Derived.Deep.RegionHeldLaw
namespace Go.Proofs.YtkiidlnimjjnlaaDoor
open Go.RowKit
set_option linter.unusedVariables false

/-- The depths that a node may have, by what stands ahead of it. -/
def lst : Nat → Int
  | 0 => 1
  | _ + 1 => 2
def mst (D : Nat → Int) (M : Nat → Bool) : Nat → Int
  | 0 => 1
  | j + 1 => D j + (if M j = true then 1 else 0)
/-- May the node stand where it does? -/
def NdOk (D C T : Nat → Int) (M : Nat → Bool) (B : Nat → ByteArray) (i : Nat) : Prop := lst i ≤ D i ∧ D i ≤ mst D M i ∧ fineB (C i) (T i) = true ∧ (M i = true → (B i).toList.isEmpty = true)
def Fit (D C T : Nat → Int) (M : Nat → Bool) (B : Nat → ByteArray) (i : Nat) : Prop := NdOk D C T M B i ∧ D i ≤ 64
theorem fit_iff (n : Nat) (D C T : Nat → Int) (M : Nat → Bool) (B : Nat → ByteArray) : (∀ i, i < n → Fit D C T M B i) ↔ ∀ i, i < n → Good D C T M B i := by
  have hf : ∀ c t : Int, fineB c t = true ↔ (0 ≤ c ∧ c ≤ 3 ∧ 0 ≤ t ∧ t ≤ 30) := fun c t => by
    unfold fineB
    simp only [Bool.and_eq_true, decide_eq_true_eq]
    constructor
    · rintro ⟨⟨⟨a, b⟩, c⟩, d⟩; exact ⟨a, b, c, d⟩
    · rintro ⟨a, b, c, d⟩; exact ⟨⟨⟨a, b⟩, c⟩, d⟩
  have one : ∀ i, Fit D C T M B i ↔ Good D C T M B i := fun i => by
    unfold Fit NdOk Good
    rw [hf]
    cases i with
    | zero =>
      show (1 ≤ D 0 ∧ D 0 ≤ 1 ∧ _) ∧ _ ↔ _
      constructor
      · rintro ⟨⟨h1, h2, ⟨c1, c2, c3, c4⟩, h4⟩, h5⟩
        exact ⟨c1, c2, c3, c4, h1, h5, h4, fun _ => by omega, fun j hj => by omega⟩
      · rintro ⟨c1, c2, c3, c4, h1, h5, h4, h6, _⟩
        have := h6 rfl
        exact ⟨⟨h1, by omega, ⟨c1, c2, c3, c4⟩, h4⟩, h5⟩
    | succ j =>
      show (2 ≤ D (j + 1) ∧ D (j + 1) ≤ D j + (if M j = true then 1 else 0) ∧ _) ∧ _ ↔ _
      constructor
      · rintro ⟨⟨h1, h2, ⟨c1, c2, c3, c4⟩, h4⟩, h5⟩
        refine ⟨c1, c2, c3, c4, by omega, h5, h4, fun h => by omega, fun j' hj' => ?_⟩
        obtain rfl : j = j' := by omega
        cases hM : M j with
        | true => rw [hM, if_pos rfl] at h2; exact ⟨h1, h2, fun _ => rfl⟩
        | false => rw [hM, if_neg (by decide)] at h2; exact ⟨h1, by omega, fun q => by omega⟩
      · rintro ⟨c1, c2, c3, c4, h1, h5, h4, _, h6⟩
        obtain ⟨q1, q2, q3⟩ := h6 j rfl
        refine ⟨⟨q1, ?_, ⟨c1, c2, c3, c4⟩, h4⟩, h5⟩
        cases hM : M j with
        | true => rw [if_pos rfl]; exact q2
        | false =>
          rw [if_neg (by decide)]
          by_cases q : D j < D (j + 1)
          · rw [q3 q] at hM; cases hM
          · omega
  exact ⟨fun h i hi => (one i).1 (h i hi), fun h i hi => (one i).2 (h i hi)⟩
theorem wr_up (k : Nat) (h : k ≤ 140737488355328) : wrap64 ((k : Int) + 1) = (k : Int) + 1 := by unfold wrap64; omega
theorem wr_d (d : Int) (h : 1 ≤ d) (h' : d ≤ 64) : wrap64 (d + 1) = d + 1 := by unfold wrap64; omega
/-- What checking a list answers. -/
def CkR (n : Nat) (D C T : Nat → Int) (M : Nat → Bool) (B : Nat → ByteArray) (c q : Int) : Prop :=
  (0 < n ∧ (∀ i, i < n → Fit D C T M B i) ∧ c = 0 ∧ q = 0) ∨ (n = 0 ∧ c = 28 ∧ q = 0) ∨
  (∃ i, i < n ∧ (∀ j, j < i → Fit D C T M B j) ∧ q = (i : Int) ∧ ((¬ NdOk D C T M B i ∧ c = 28) ∨ (NdOk D C T M B i ∧ ¬ D i ≤ 64 ∧ c = 25)))
def CkE (e : Ending) (n : Nat) (D C T : Nat → Int) (M : Nat → Bool) (B : Nat → ByteArray) : Prop := ∃ c q : Int, e = .returned (.tuple #[.int .i64 c, .int .i64 q]) ∧ CkR n D C T M B c q

set_option maxRecDepth 100000 in
set_option maxHeartbeats 4000000 in
theorem checkTree_any (a : Option Addr) (n c : Nat) (D C T : Nat → Int) (M : Nat → Bool) (B : Nat → ByteArray) (w : World) (hn : IsNodes w a n D C T M B) (hl : n ≤ 140737488355328) :
    Calls Tryd.prog 49 #[.slice a n c] w fun e w' => CkE e n D C T M B ∧ Below w.heap.size w w' := by
  have hn' : Hid (IsNodes w a n D C T M B) := hn
  have hl' : Hid (n ≤ 140737488355328) := hl
  clear hn hl
  by_cases hn0 : n = 0
  · subst hn0
    go_enter Tryd.func49, Tryd.ntmps49
    go_wp2_with fail
    go_ret2
    exact ⟨⟨28, 0, rfl, Or.inr (Or.inl ⟨rfl, rfl, rfl⟩)⟩, Below.refl _ _⟩
  have e0n : ((n : Int) == 0) = false := by rw [beq_eq_false_iff_ne]; omega
  have hpos : Hid (0 < n) := by unfold Hid; omega
  clear hn0
  go_enter Tryd.func49, Tryd.ntmps49
  go_wp2_with fail
  go_loopw [4, 5, 13] (fun lv mv iv wr => ∃ (k : Nat), k ≤ n ∧ iv = .int .i64 (k : Int) ∧ lv = .int .i64 (lst k) ∧ mv = .int .i64 (mst D M k) ∧ Hid ((∀ i, i < k → Fit D C T M B i) ∧ Below w.heap.size w wr)) (fun _ _ iv _ => n - (intOf iv).toNat)
  case atStart => exact ⟨0, Nat.zero_le _, rfl, rfl, rfl, fun i hi => by omega, Below.refl _ _⟩
  case round =>
    obtain ⟨k, hk, rfl, rfl, rfl, HI⟩ := hrel
    have i0 : (0 : Int) ≤ (k : Int) := Int.natCast_nonneg _
    by_cases hlt : k < n
    · have i1 : (k : Int) < (n : Int) := Int.ofNat_lt.2 hlt
      obtain ⟨b, off, rfl, c0, c1, c2, c3, c4⟩ := (hn'.out.below HI.out.2) k hlt
      have hB1 : Hid (Below w.heap.size w (wr.alloc (.cells #[.int .i64 (D k), .int .i64 (C k), .bool (M k), .int .i64 (T k), .string (B k)] 38))) := HI.out.2.alloc HI.out.2.size _
      have hbad : Hid (¬ NdOk D C T M B k → CkR n D C T M B 28 (k : Int)) := fun h => Or.inr (Or.inr ⟨k, hlt, HI.out.1, rfl, Or.inl ⟨h, rfl⟩⟩)
      have hdeep : Hid (NdOk D C T M B k → ¬ D k ≤ 64 → CkR n D C T M B 25 (k : Int)) := fun h h' => Or.inr (Or.inr ⟨k, hlt, HI.out.1, rfl, Or.inr ⟨h, h', rfl⟩⟩)
      have hnext : Hid (NdOk D C T M B k → D k ≤ 64 → ∀ i, i < k + 1 → Fit D C T M B i) := fun h h' i hi => by
        by_cases e : i = k
        · subst e; exact ⟨h, h'⟩
        · exact HI.out.1 i (by omega)
      have hok : Hid (NdOk D C T M B k ↔ (lst k ≤ D k ∧ D k ≤ mst D M k ∧ fineB (C k) (T k) = true ∧ (M k = true → (B k).toList.isEmpty = true))) := Iff.rfl
      have hmn : Hid (mst D M (k + 1) = D k + (if M k = true then 1 else 0) ∧ lst (k + 1) = 2) := ⟨rfl, rfl⟩
      have hge : Hid (1 ≤ lst k) := by unfold Hid; cases k with
        | zero => exact Int.le_refl _
        | succ k => show (1 : Int) ≤ 2; decide
      obtain ⟨lo, hlo⟩ : ∃ x, lst k = x := ⟨_, rfl⟩
      obtain ⟨hi, hhi⟩ : ∃ x, mst D M k = x := ⟨_, rfl⟩
      obtain ⟨d, hd⟩ : ∃ x, D k = x := ⟨_, rfl⟩
      obtain ⟨cl, hc⟩ : ∃ x, C k = x := ⟨_, rfl⟩
      obtain ⟨t, ht⟩ : ∃ x, T k = x := ⟨_, rfl⟩
      obtain ⟨m, hm⟩ : ∃ x, M k = x := ⟨_, rfl⟩
      obtain ⟨s, hs⟩ : ∃ x, B k = x := ⟨_, rfl⟩
      rw [hlo] at hge
      rw [hlo, hhi, hd, hc, ht, hm, hs] at hok
      rw [hd, hm] at hmn
      rw [hd] at c0 hdeep hnext hB1
      rw [hc] at c1 hB1
      rw [hm] at c2 hB1
      rw [ht] at c3 hB1
      rw [hs] at c4 hB1
      rw [hlo, hhi]
      obtain ⟨fb, hfb⟩ : ∃ x, fineB cl t = x := ⟨_, rfl⟩
      have HW : ∀ W, Hid (Calls Tryd.prog 62 #[.int .i64 cl, .int .i64 t] W fun r w' => r = .returned (.bool fb) ∧ W = w') := fun W => by rw [← hfb]; exact writable_any cl t W
      rw [hfb] at hok
      have hkw : Hid (wrap64 ((k : Int) + 1) = (k : Int) + 1) := wr_up k (by have := hl'.out; omega)
      have hlt' : Hid (k < n) := hlt
      clear hlo hhi hd hc ht hm hs hfb hlt hk HI hn'
      by_cases q1 : d < lo
      · have hfin : Hid (CkR n D C T M B 28 (k : Int)) := hbad.out (fun h => by have := (hok.out.1 h).1; omega)
        clear hbad hdeep hnext hok hmn hge
        go_wp2_with fail
        go_ret2
        exact ⟨⟨28, k, rfl, hfin.out⟩, hB1.out⟩
      by_cases q2 : d > hi
      · have hfin : Hid (CkR n D C T M B 28 (k : Int)) := hbad.out (fun h => by have := (hok.out.1 h).2.1; omega)
        clear hbad hdeep hnext hok hmn hge
        go_wp2_with fail
        go_ret2
        exact ⟨⟨28, k, rfl, hfin.out⟩, hB1.out⟩
      cases fb with
      | false =>
        have hfin : Hid (CkR n D C T M B 28 (k : Int)) := hbad.out (fun h => by have := (hok.out.1 h).2.2.1; cases this)
        clear hbad hdeep hnext hok hmn hge
        go_wp2_with (go_at_call 62; refine (HW _).out.mono ?_; rintro r w5 ⟨rfl, rfl⟩)
        go_ret2
        exact ⟨⟨28, k, rfl, hfin.out⟩, hB1.out⟩
      | true =>
        by_cases q3 : m = true ∧ s.toList.isEmpty = false
        · obtain ⟨rfl, q4⟩ := q3
          have hfin : Hid (CkR n D C T M B 28 (k : Int)) := hbad.out (fun h => by have := (hok.out.1 h).2.2.2 rfl; rw [q4] at this; cases this)
          have q5 : (s.toList == []) = false := by
            cases hh : s.toList with
            | nil => rw [hh] at q4; cases q4
            | cons x l => rfl
          clear hbad hdeep hnext hok hmn hge
          go_wp2_with (go_at_call 62; refine (HW _).out.mono ?_; rintro r w5 ⟨rfl, rfl⟩)
          go_ret2
          exact ⟨⟨28, k, rfl, hfin.out⟩, hB1.out⟩
        · have hme : m = true → s.toList.isEmpty = true := fun h => by
            cases he : s.toList.isEmpty with
            | true => rfl
            | false => exact absurd ⟨h, he⟩ q3
          have hOK := hok.out.2 ⟨by omega, by omega, rfl, hme⟩
          have hdeep' : Hid (¬ d ≤ 64 → CkR n D C T M B 25 (k : Int)) := hdeep.out hOK
          have hnext' : Hid (d ≤ 64 → ∀ i, i < k + 1 → Fit D C T M B i) := hnext.out hOK
          have hlo1 : Hid (1 ≤ d) := by unfold Hid; have := hge.out; omega
          have hm2 : Hid (mst D M (k + 1) = d + (if m = true then 1 else 0) ∧ lst (k + 1) = 2) := hmn.out
          have hem : m = false ∨ (m = true ∧ (s.toList == []) = true) := by
            cases m with
            | false => exact Or.inl rfl
            | true => exact Or.inr ⟨rfl, by rw [List.isEmpty_iff.1 (hme rfl)]; rfl⟩
          clear hbad hdeep hnext hok hmn hge hOK hme q3
          by_cases q6 : d > 64
          · have hfin : Hid (CkR n D C T M B 25 (k : Int)) := hdeep'.out (by omega)
            clear hdeep' hnext' hm2 hlo1
            rcases hem with rfl | ⟨rfl, q7⟩
            all_goals
              go_wp2_with (go_at_call 62; refine (HW _).out.mono ?_; rintro r w5 ⟨rfl, rfl⟩)
              go_ret2
              exact ⟨⟨25, k, rfl, hfin.out⟩, hB1.out⟩
          · have hfin : Hid (∀ i, i < k + 1 → Fit D C T M B i) := hnext'.out (by omega)
            have hdw : Hid (wrap64 (d + 1) = d + 1) := wr_d (d) hlo1.out (by omega)
            clear hdeep' hnext' hlo1
            rcases hem with rfl | ⟨rfl, q7⟩
            · have q8 : (wr.alloc (.cells #[.int .i64 d, .int .i64 cl, .bool false, .int .i64 t, .string s] 38)).cell? ⟨wr.heap.size, 0, none⟩ = some (.int .i64 d) := by simp [go_sem]
              have hkw2 := hkw.out
              go_wp2_with (go_at_call 62; refine (HW _).out.mono ?_; rintro r w5 ⟨rfl, rfl⟩)
              go_quiet (fail)
              go_wp2_with fail
              refine ⟨⟨k + 1, hlt'.out, congrArg (Value.int .i64) (by rw [hkw2]; omega), by rw [hm2.out.2], by rw [hm2.out.1]; simp, hfin.out, by first | exact belowN hB1.out _ | exact hB1.out⟩, ?_⟩
              rw [hkw2]
              have := hlt'.out
              simp [intOf]
              omega
            · have q8 : (wr.alloc (.cells #[.int .i64 d, .int .i64 cl, .bool true, .int .i64 t, .string s] 38)).cell? ⟨wr.heap.size, 0, none⟩ = some (.int .i64 d) := by simp [go_sem]
              have hkw2 := hkw.out
              have hdw2 := hdw.out
              go_wp2_with (go_at_call 62; refine (HW _).out.mono ?_; rintro r w5 ⟨rfl, rfl⟩)
              go_quiet (fail)
              go_wp2_with fail
              refine ⟨⟨k + 1, hlt'.out, congrArg (Value.int .i64) (by rw [hkw2]; omega), by rw [hm2.out.2], by rw [hm2.out.1, hdw2]; simp, hfin.out, by first | exact belowN hB1.out _ | exact hB1.out⟩, ?_⟩
              rw [hkw2]
              have := hlt'.out
              simp [intOf]
              omega
    · obtain rfl : k = n := by omega
      have i1 : ¬ (k : Int) < (k : Int) := by omega
      have hfin : Hid (CkR k D C T M B 0 0 ∧ Below w.heap.size w wr) := ⟨Or.inl ⟨hpos.out, HI.out.1, rfl, rfl⟩, HI.out.2⟩
      clear hn' HI
      go_wp2_with fail
      go_ret2
      exact ⟨⟨0, 0, rfl, hfin.out.1⟩, hfin.out.2⟩
end Go.Proofs.YtkiidlnimjjnlaaDoor

namespace Go.Proofs.YtkiidlnimjjnlaaDoor
open Go.RowKit
set_option linter.unusedVariables false

theorem info_int : (Tryd.prog.info? 3).map (fun i => (i.zero, i.size, i.bytes)) = some (some (.int .i64 0), 1, 8) := by kernel_rfl
theorem make_ints (n : Nat) (hn : n ≤ 67108864) (W : World) : (Instr.makeSlice 67 (.int .i64 (n : Int)) (.int .i64 (n : Int))).run Tryd.prog W = .ok (.slice (some ⟨W.heap.size, 0, none⟩) n n) (W.alloc (.cells (madeCells #[.int .i64 0] n) 3)) := by
  obtain ⟨i0, hi, hz0, hz1, hz2⟩ := info_parts info_int
  have hr := run_make (P := Tryd.prog) W 67 3 i0 (.int .i64 0) Tryd.underlying67 hi hz0 .i64 .i64 (n : Int) (n : Int) (by omega) (Int.le_refl _) (by rw [hz2]; omega) (by omega)
  simp only [Int.toNat_natCast, hz1, Nat.mul_one] at hr
  exact hr
/-- The lengths that are known: those from K on. -/
def LenB (W : World) (g n K : Nat) (Ls : Nat → Nat) : Prop := ∃ cs, Box W g 3 cs ∧ cs.size = n ∧ (∀ j, j < n → ∃ x, cs[j]? = some (.int .i64 x)) ∧ ∀ j, K ≤ j → j < n → cs[j]? = some (.int .i64 (Ls j : Int))
theorem LenB.of {W W' : World} {g n K : Nat} {Ls : Nat → Nat} (h : LenB W g n K Ls) (e : W'.heap[g]? = W.heap[g]?) : LenB W' g n K Ls := by
  obtain ⟨cs, h1, h2⟩ := h
  exact ⟨cs, h1.of e, h2⟩
theorem LenB.lt {W : World} {g n K : Nat} {Ls : Nat → Nat} (h : LenB W g n K Ls) : g < W.heap.size := by
  obtain ⟨cs, h1, _⟩ := h
  exact h1.lt
theorem LenB.any {W : World} {g n K : Nat} {Ls : Nat → Nat} (h : LenB W g n K Ls) (j : Nat) (hj : j < n) : ∃ x, W.cell? ⟨g, j, none⟩ = some (.int .i64 x) ∧ W.frozen? ⟨g, j, none⟩ = false := by
  obtain ⟨cs, h1, h2, h3, _⟩ := h
  obtain ⟨x, hx⟩ := h3 j hj
  exact ⟨x, at_of h1 hx⟩
theorem LenB.at {W : World} {g n K : Nat} {Ls : Nat → Nat} (h : LenB W g n K Ls) (j : Nat) (hk : K ≤ j) (hj : j < n) : W.cell? ⟨g, j, none⟩ = some (.int .i64 (Ls j : Int)) := by
  obtain ⟨cs, h1, h2, _, h4⟩ := h
  exact (at_of h1 (h4 j hk hj)).1
def updL (Ls : Nat → Nat) (i x : Nat) : Nat → Nat := fun j => if j = i then x else Ls j
theorem LenB.set {W : World} {g n i : Nat} {Ls : Nat → Nat} (h : LenB W g n (i + 1) Ls) (hi : i < n) (x : Nat) : LenB (W.setCell ⟨g, i, none⟩ (.int .i64 (x : Int))) g n i (updL Ls i x) := by
  obtain ⟨cs, h1, h2, h3, h4⟩ := h
  have hsz : i < cs.size := by omega
  refine ⟨_, h1.set i _, by rw [Array.size_setIfInBounds]; exact h2, fun j hj => ?_, fun j hk hj => ?_⟩
  · by_cases e : j = i
    · subst e; exact ⟨_, by rw [Array.getElem?_setIfInBounds_self_of_lt hsz]⟩
    · obtain ⟨y, hy⟩ := h3 j hj
      exact ⟨y, by rw [Array.getElem?_setIfInBounds_ne (fun q => e q.symm)]; exact hy⟩
  · unfold updL
    by_cases e : j = i
    · subst e; rw [if_pos rfl, Array.getElem?_setIfInBounds_self_of_lt hsz]
    · rw [if_neg e, Array.getElem?_setIfInBounds_ne (fun q => e q.symm)]; exact h4 j (by omega) hj
theorem len_new (w : World) (n : Nat) : LenB (w.alloc (.cells (madeCells #[.int .i64 0] n) 3)) w.heap.size n n (fun _ => 0) := by
  refine ⟨_, Box.new _ _ _, by rw [size_madeCells], fun j hj => ⟨0, ?_⟩, fun j h1 h2 => by omega⟩
  simp [madeCells, hj, Nat.mod_one]
/-- What measuring has in hand. -/
def MsR (w W : World) (n K : Nat) (σ : List Nat) (Ls : Nat → Nat) : Prop := NumB W (w.heap.size + 1) σ ∧ LenB W w.heap.size n K Ls ∧ Below w.heap.size w W
theorem MsR.drewN {w W : World} {n K : Nat} {σ : List Nat} {Ls : Nat → Nat} (h : MsR w W n K σ Ls) (q : Nat) : MsR w (W.drewN q) n K σ Ls := ⟨h.1.of rfl, h.2.1.of rfl, belowN h.2.2 q⟩
theorem MsR.num {w W : World} {n K : Nat} {σ : List Nat} {Ls : Nat → Nat} (h : MsR w W n K σ Ls) (hl : σ.length = 66) (e : Nat) (he : e < 66) (v : Nat) : MsR w (W.setCell ⟨w.heap.size + 1, e, none⟩ (.int .i64 (v : Int))) n K (σ.set e v) Ls :=
  ⟨h.1.set hl e he v, h.2.1.of (Below.heap_setCell _ _ _ _ (by show w.heap.size ≠ w.heap.size + 1; omega)), h.2.2.setCell (Nat.le_succ _) _⟩
theorem MsR.len {w W : World} {n i : Nat} {σ : List Nat} {Ls : Nat → Nat} (h : MsR w W n (i + 1) σ Ls) (hi : i < n) (x : Nat) : MsR w (W.setCell ⟨w.heap.size, i, none⟩ (.int .i64 (x : Int))) n i σ (updL Ls i x) :=
  ⟨h.1.of (Below.heap_setCell _ _ _ _ (by show w.heap.size + 1 ≠ w.heap.size; omega)), h.2.1.set hi x, h.2.2.setCell (Nat.le_refl _) _⟩
theorem set_same (σ : List Nat) (i : Nat) (h : σ.getD i 0 = 0) (hi : i < σ.length) : σ.set i 0 = σ := by
  apply List.ext_getElem?
  intro j
  by_cases e : i = j
  · subst e
    rw [List.getElem?_set_self hi]
    simp only [List.getD, List.getElem?_eq_getElem hi, Option.getD_some] at h
    rw [List.getElem?_eq_getElem hi, h]
  · rw [List.getElem?_set_ne e]
/-- The length that measure reckons is the one that is said. -/
theorem ms_len {n i : Nat} {D C T : Nat → Int} {M : Nat → Bool} {B : Nat → ByteArray} {σ : List Nat} {H : Nat → List UInt8} (hi : i < n) (hI : SpI n (i + 1) D C T M B σ H) (hG : ∀ j, j < n → Good D C T M B j) (d : Nat) (hd : D i = (d : Int)) :
    (B i).size + σ.getD (d + 1) 0 = spL D M B σ i ∧ BhSpM.shut σ d (M i) = σ.set (d + 1) 0 := by
  obtain ⟨h1, h2, _⟩ := hI
  obtain ⟨g1, g2, g3, g4, g5, g6, g7, _⟩ := hG i hi
  have hdn : (D i).toNat = d := by omega
  have hm : M i = false → σ.getD (d + 1) 0 = 0 := fun hM => h2 (d + 1) (by
    by_cases e : i + 1 = n
    · exact Or.inl e
    · have hh := (hG (i + 1) (by omega)).2.2.2.2.2.2.2.2 i rfl
      refine Or.inr ⟨by omega, ?_⟩
      by_cases q : D i < D (i + 1)
      · rw [hh.2.2 q] at hM; cases hM
      · omega)
  cases hM : M i with
  | true =>
    refine ⟨?_, rfl⟩
    unfold spL BhSpM.len
    rw [hM, if_pos rfl, hdn, empty_size (g7 hM), Nat.zero_add]
  | false =>
    refine ⟨?_, ?_⟩
    · unfold spL BhSpM.len
      rw [hM, hm hM]
      rfl
    · show σ = _
      rw [set_same σ (d + 1) (hm hM) (by omega)]
/-- The header of j is the shortest form of its length. -/
def HSh (C T : Nat → Int) (M : Nat → Bool) (Ls : Nat → Nat) (H : Nat → List UInt8) (j : Nat) : Prop := H j = hdrL (C j).toNat (M j) (T j).toNat (Ls j) (ll (Ls j)) ∧ Ls j ≤ 67108864
theorem ms_step {n i : Nat} {D C T : Nat → Int} {M : Nat → Bool} {B : Nat → ByteArray} {σ : List Nat} {H : Nat → List UInt8} {Ls : Nat → Nat} (hi : i < n) (hI : SpI n (i + 1) D C T M B σ H) (hG : ∀ j, j < n → Good D C T M B j) (hs : bsum B n ≤ 67108864) (hH : ∀ j, i + 1 ≤ j → j < n → HSh C T M Ls H j) (d : Nat) (hd : D i = (d : Int)) (L : Nat) (hL : spL D M B σ i = L) :
    ∃ H', SpI n i D C T M B ((σ.set (d + 1) 0).set d ((σ.set (d + 1) 0).getD d 0 + (2 + ll L) + L)) H' ∧ ∀ j, i ≤ j → j < n → HSh C T M (updL Ls i L) H' j := by
  have hLe := (spL_le hi hI).1
  obtain ⟨e1, e2⟩ := ms_len hi hI hG d hd
  have hdn : (D i).toNat = d := by omega
  have h := spI_step hi hI hG (ll L) (ll_le L) (by rw [hL]; exact says_wide L (by omega))
  have hσ : spS D M B σ i (ll L) = (σ.set (d + 1) 0).set d ((σ.set (d + 1) 0).getD d 0 + (2 + ll L) + L) := by
    unfold spS BhSpM.stp
    rw [hdn, e2]
    have : BhSpM.len σ d (M i) (B i).size = L := by rw [← hL]; unfold spL; rw [hdn]
    rw [this]
  rw [hσ, hL] at h
  refine ⟨_, h, fun j h1 h2 => ?_⟩
  unfold HSh updH updL
  rw [hL] at hLe
  by_cases e : j = i
  · subst e; rw [if_pos rfl, if_pos rfl]; exact ⟨rfl, by omega⟩
  · rw [if_neg e, if_neg e]; exact hH j (by omega) h2
/-- What measure answers. -/
def MeR (e : Ending) (w w' : World) (n : Nat) (D C T : Nat → Int) (M : Nat → Bool) (B : Nat → ByteArray) : Prop :=
  ∃ (Ls : Nat → Nat) (H : Nat → List UInt8) (σ : List Nat), e = .returned (.tuple #[.slice (some ⟨w.heap.size, 0, none⟩) n n, .int .i64 (σ.getD 1 0 : Int), .int .i64 0]) ∧ SpI n 0 D C T M B σ H ∧ (∀ j, j < n → HSh C T M Ls H j) ∧ LenB w' w.heap.size n 0 Ls
theorem wr_ge (a : Nat) (h : a ≤ 4294967296) : wrap64 (a : Int) = (a : Int) ∧ IntKind.i64.wrap (a : Int) = (a : Int) := by
  rw [IntKind.wrap_i64]
  unfold wrap64
  omega
theorem wr_one (d : Nat) (h : d ≤ 4294967295) : wrap64 ((d : Int) + 1) = ((d + 1 : Nat) : Int) ∧ IntKind.i64.wrap ((d : Int) + 1) = ((d + 1 : Nat) : Int) := by
  rw [IntKind.wrap_i64]
  unfold wrap64
  omega
theorem wr_sum (a b c : Nat) (h : a + b = c) (hc : c ≤ 4294967296) : wrap64 ((a : Int) + (b : Int)) = (c : Int) ∧ IntKind.i64.wrap ((a : Int) + (b : Int)) = (c : Int) := by
  rw [IntKind.wrap_i64]
  unfold wrap64
  omega
set_option maxRecDepth 100000 in
set_option maxHeartbeats 4000000 in
theorem measure_any (a : Option Addr) (n c : Nat) (D C T : Nat → Int) (M : Nat → Bool) (B : Nat → ByteArray) (w : World) (hn : IsNodes w a n D C T M B) (hG : ∀ i, i < n → Good D C T M B i) (h0 : 0 < n) (hs : bsum B n ≤ 67108864) :
    Calls Tryd.prog 50 #[.slice a n c] w fun e w' => MeR e w w' n D C T M B ∧ Below w.heap.size w w' := by
  have hnn : n ≤ 67108864 := by have := bsum_six B n; omega
  have hmk := make_ints n hnn
  have HG : Hid (IsNodes w a n D C T M B ∧ (∀ i, i < n → Good D C T M B i) ∧ 0 < n ∧ bsum B n ≤ 67108864 ∧ n ≤ 67108864) := ⟨hn, hG, h0, hs, hnn⟩
  have hw1 : wrap64 ((n : Int) - 1) = (n : Int) - 1 := by unfold wrap64; omega
  clear hn hG hs h0
  go_enter Tryd.func50, Tryd.ntmps50
  go_wp2_with fail
  go_loopw [2, 6] (fun lv iv wr => ∃ (K : Nat) (σ : List Nat) (H : Nat → List UInt8) (Ls : Nat → Nat), K ≤ n ∧ lv = .slice (some ⟨w.heap.size, 0, none⟩) n n ∧ iv = .int .i64 ((K : Int) - 1) ∧ Hid (SpI n K D C T M B σ H ∧ (∀ j, K ≤ j → j < n → HSh C T M Ls H j) ∧ MsR w wr n K σ Ls)) (fun _ iv _ => (intOf iv + 1).toNat)
  case atStart =>
    refine ⟨n, _, _, (fun _ => 0), Nat.le_refl _, rfl, by go_num, ⟨spI_start n HG.out.2.2.1 D C T M B, fun j h1 h2 => by omega, ?_, ?_, ?_⟩⟩
    · have := num_new (w.alloc (.cells (madeCells #[.int .i64 0] n) 3))
      have hz : Tryd.zeroCells66 = sZ := by kernel_rfl
      rw [hz]
      simpa using this
    · exact (len_new w n).of (Below.heap_alloc _ _ _ (by simp))
    · exact ((Below.refl _ _).alloc (Nat.le_refl _) _).alloc (by simp) _
  case round =>
    obtain ⟨K, σ, H, Ls, hK, rfl, rfl, HI⟩ := hrel
    clear hw1 hmk
    cases K with
    | zero =>
      have ez : (((0 : Nat) : Int) - 1) = -1 := by omega
      rw [ez]
      have hfin : Hid (∀ q, MeR (.returned (.tuple #[.slice (some ⟨w.heap.size, 0, none⟩) n n, .int .i64 (σ.getD 1 0 : Int), .int .i64 0])) w (wr.drewN q) n D C T M B ∧ Below w.heap.size w (wr.drewN q)) := fun q => by
        have h := HI.out.2.2.drewN q
        exact ⟨⟨Ls, H, σ, rfl, HI.out.1, fun j hj => HI.out.2.1 j (Nat.zero_le _) hj, h.2.1⟩, h.2.2⟩
      obtain ⟨y1, y2⟩ := HI.out.2.2.1.at 1 (by decide)
      clear HI HG
      go_wp2_with fail
      go_quiet (fail)
      go_wp2_with fail
      refine bodyPost_ret_by (v := .tuple #[.slice (some ⟨w.heap.size, 0, none⟩) n n, .int .i64 (σ.getD 1 0 : Int), .int .i64 0]) (by simp [results, Tryd.results50]) rfl (hfin.out _)
    | succ i =>
      have i0 : (0 : Int) ≤ (i : Int) := Int.natCast_nonneg _
      have i1 : (i : Int) < (n : Int) := Int.ofNat_lt.2 hK
      have ei : (((i + 1 : Nat) : Int) - 1) = (i : Int) := by omega
      rw [ei]
      obtain ⟨b, off, rfl, c0, c1, c2, c3, c4⟩ := (HG.out.1.below HI.out.2.2.2.2) i hK
      obtain ⟨gd1, gd2, gd3, gd4, gd5, gd6, _⟩ := HG.out.2.1 i hK
      have hLe := spL_le hK HI.out.1
      have hsb := HG.out.2.2.2.1
      have hbl : Hid (b < wr.heap.size) := World.block_lt_of_cell? wr _ c0
      obtain ⟨d, hd⟩ : ∃ d : Nat, D i = (d : Int) := ⟨(D i).toNat, by omega⟩
      obtain ⟨e1, e2⟩ := ms_len hK HI.out.1 HG.out.2.1 d hd
      obtain ⟨L, hL⟩ : ∃ L, spL D M B σ i = L := ⟨_, rfl⟩
      obtain ⟨H', q1, q2⟩ := ms_step hK HI.out.1 HG.out.2.1 hsb HI.out.2.1 d hd L hL
      rw [hL] at e1 hLe
      have hL64 : L ≤ 67108864 := Nat.le_trans hLe.1 hsb
      have hσ : Hid (σ.length = 66) := HI.out.1.1
      obtain ⟨x, hx⟩ : ∃ x, σ.getD (d + 1) 0 = x := ⟨_, rfl⟩
      obtain ⟨y, hy⟩ : ∃ y, (σ.set (d + 1) 0).getD d 0 = y := ⟨_, rfl⟩
      have hy' : Hid ((σ.set (d + 1) 0).getD d 0 = y) := hy
      have hyb : y ≤ 67108864 := by
        rw [← hy, BhSpM.getD_set_other _ _ _ _ (by omega)]
        exact Nat.le_trans (hLe.2 d) hsb
      obtain ⟨s, hs⟩ : ∃ s, B i = s := ⟨_, rfl⟩
      rw [hs] at c4 e1
      rw [hd] at c0
      rw [hx] at e1
      have he64 : d ≤ 64 := by omega
      have wd : Hid _ := wr_one d (by omega)
      have wL : Hid _ := wr_sum s.size x L e1 (by omega)
      have w3 : Hid _ := wr_sum (2 + ll L) L (2 + ll L + L) rfl (by have := ll_le L; omega)
      have w4 : Hid _ := wr_sum y (2 + ll L + L) (y + (2 + ll L + L)) rfl (by have := ll_le L; omega)
      have wp' : Hid _ := wr_pred i n hK HG.out.2.2.2.2
      have HM : Hid (MsR w wr n (i + 1) σ Ls) := HI.out.2.2
      have hin : Hid (i < n) := hK
      have HF : Hid (∀ W, MsR w W n i ((σ.set (d + 1) 0).set d (y + (2 + ll L + L))) (updL Ls i L) → SpI n i D C T M B ((σ.set (d + 1) 0).set d (y + (2 + ll L + L))) H' ∧ (∀ j, i ≤ j → j < n → HSh C T M (updL Ls i L) H' j) ∧ MsR w W n i ((σ.set (d + 1) 0).set d (y + (2 + ll L + L))) (updL Ls i L)) := fun W hW => by
        rw [hy, show y + (2 + ll L) + L = y + (2 + ll L + L) from by omega] at q1
        exact ⟨q1, q2, hW⟩
      have hT : ∀ W, Hid (Calls Tryd.prog 63 #[.int .i64 (L : Int)] W fun r w' => r = .returned (.bool false) ∧ W = w') := fun W => by
        have := tooLong_any L W
        rwa [decide_eq_false (by omega)] at this
      have hHS : ∀ W, Hid (Calls Tryd.prog 64 #[.int .i64 (L : Int)] W fun r w' => r = .returned (.int .i64 ((2 + ll L : Nat) : Int)) ∧ W = w') := fun W => headerSize_any L W
      have y2 := HI.out.2.2.1.at (d + 1) (by omega)
      rw [hx] at y2
      obtain ⟨y3, y4⟩ := y2
      have d0 : (0 : Int) ≤ (d : Int) := Int.natCast_nonneg _
      have d1 : (d : Int) < 66 := by omega
      have d2 : (0 : Int) ≤ ((d + 1 : Nat) : Int) := Int.natCast_nonneg _
      have d3 : ((d + 1 : Nat) : Int) < 66 := by omega
      have he66 : Hid (d + 1 < 66 ∧ d < 66) := ⟨by omega, by omega⟩
      obtain ⟨ds, hds⟩ : ∃ ds, ds = d + 1 := ⟨_, rfl⟩
      rw [← hds] at wd y3 y4 d2 d3
      have hds' : Hid (ds = d + 1) := hds
      obtain ⟨h2, hh2⟩ : ∃ h2, h2 = 2 + ll L := ⟨_, rfl⟩
      rw [← hh2] at hHS w3 w4 HF
      obtain ⟨z, hz⟩ : ∃ z, z = h2 + L := ⟨_, rfl⟩
      rw [← hz] at w3 w4 HF
      obtain ⟨uu, huu⟩ : ∃ uu, uu = y + z := ⟨_, rfl⟩
      rw [← huu] at w4 HF
      obtain ⟨wd1, wd2⟩ := wd.out
      obtain ⟨wL1, wL2⟩ := wL.out
      obtain ⟨w31, w32⟩ := w3.out
      obtain ⟨w41, w42⟩ := w4.out
      have wp := wp'.out
      clear wd wL w3 w4 wp'
      clear HI HG hK hLe hsb gd1 gd2 gd3 gd4 gd5 gd6 e1 e2 hL hL64 hx hy hyb hs hd he64 hds hh2 hz huu q1 q2 c1 c2 c3 hnn
      go_wp2_with fail
      go_quiet (fail)
      have HM2 : Hid (MsR w (wr.drewN nq) n (i + 1) σ Ls) := HM.out.drewN nq
      have z3 : (wr.drewN nq).cell? ⟨w.heap.size + 1, ds, none⟩ = some (.int .i64 (x : Int)) := y3
      have z4 : (wr.drewN nq).frozen? ⟨w.heap.size + 1, ds, none⟩ = false := y4
      clear HM y3 y4 c0 c4 hbl wL1 wL2
      obtain ⟨W2, hW2⟩ : ∃ W2, wr.drewN nq = W2 := ⟨_, rfl⟩
      rw [hW2] at HM2 z3 z4 ⊢
      clear hW2
      go_upto_region 11 with (go_at_call 63; refine (hT _).out.mono ?_; rintro r w5 ⟨rfl, rfl⟩)
      have HM3 : Hid (MsR w (W2.setCell ⟨w.heap.size + 1, ds, none⟩ (.int .i64 0)) n (i + 1) (σ.set (d + 1) 0) Ls) := by
        have := HM2.out.num hσ.out (d + 1) he66.out.1 0
        rw [← hds'.out] at this ⊢
        exact this
      clear HM2 z3 z4 hT
      obtain ⟨W3, hW3⟩ : ∃ W3, W2.setCell ⟨w.heap.size + 1, ds, none⟩ (.int .i64 0) = W3 := ⟨_, rfl⟩
      rw [hW3] at HM3 ⊢
      clear hW3
      obtain ⟨v1, v2⟩ := HM3.out.1.at d he66.out.2
      rw [hy'.out] at v1
      have v3 : W3.drew.cell? ⟨w.heap.size + 1, d, none⟩ = some (.int .i64 (y : Int)) := v1
      have v4 : W3.drew.frozen? ⟨w.heap.size + 1, d, none⟩ = false := v2
      go_region_with (go_at_call 64; refine (hHS _).out.mono ?_; rintro r w5 ⟨rfl, rfl⟩)
      all_goals
        have HM4 : Hid (MsR w (W3.drew.setCell ⟨w.heap.size + 1, d, none⟩ (.int .i64 (uu : Int))) n (i + 1) ((σ.set (d + 1) 0).set d uu) Ls) := (HM3.out.drewN 1).num (by rw [List.length_set]; exact hσ.out) d he66.out.2 uu
        have hsp : (W3.setCell ⟨w.heap.size + 1, d, none⟩ (.int .i64 (uu : Int))).drew = W3.drew.setCell ⟨w.heap.size + 1, d, none⟩ (.int .i64 (uu : Int)) := rfl
        try rw [hsp]
        obtain ⟨W5, hW5⟩ : ∃ W5, W3.drew.setCell ⟨w.heap.size + 1, d, none⟩ (.int .i64 (uu : Int)) = W5 := ⟨_, rfl⟩
        rw [hW5] at HM4 ⊢
        clear hsp hW5
        obtain ⟨xl, l1, l2⟩ := HM4.out.2.1.any i hin.out
        have HM5 : Hid (MsR w (W5.setCell ⟨w.heap.size, i, none⟩ (.int .i64 (L : Int))) n i ((σ.set (d + 1) 0).set d uu) (updL Ls i L)) := HM4.out.len hin.out L
        clear HM3 HM4 v1 v2 v3 v4 hHS w31 w32 w41 w42 wd1 wd2
        go_wp2_with fail
        refine ⟨⟨i, _, _, _, Nat.le_of_lt hin.out, rfl, by rw [wp], HF.out _ HM5.out⟩, ?_⟩
        rw [wp]
        show ((i : Int) - 1 + 1).toNat < ((i : Int) + 1).toNat
        omega
end Go.Proofs.YtkiidlnimjjnlaaDoor

namespace Go.Proofs.YtkiidlnimjjnlaaDoor
open Go.RowKit
open BerMath (lo)
set_option linter.unusedVariables false

/-- What lies below B stands, and whatever is no row of bytes. -/
def BelT (B : Nat) (w w' : World) : Prop := Below B w w' ∧ ∀ (k : Nat) (o : Obj), w.heap[k]? = some o → (∀ cs fz, o ≠ .cells cs 5 fz) → w'.heap[k]? = some o
theorem BelT.refl (B : Nat) (w : World) : BelT B w w := ⟨Below.refl _ _, fun _ _ h _ => h⟩
theorem BelT.trans {B : Nat} {a b c : World} (h : BelT B a b) (h' : BelT B b c) : BelT B a c := ⟨h.1.trans h'.1, fun k o hk ho => h'.2 k o (h.2 k o hk ho) ho⟩
theorem BelT.size {B : Nat} {a b : World} (h : BelT B a b) : a.heap.size ≤ b.heap.size := h.1.size
/-- One byte appended to a row of the call's own. -/
theorem push_byteT (w : World) {ops : Array Oper} {rest : List Oper} {o : Oper} {a : Act} {Q : Exit → Act → World → Prop} (hgd : o.guard = none) (s x : Operand)
    (ho : o.op = .call { callee := .builtin .append, args := #[s, x], argTypes := #[68, 68] }) (B : Nat) (v : Value) (l : List UInt8) (c : UInt8)
    (hs : a.eval s = v) (hx : a.eval x = .slice (some ⟨w.heap.size, 0, none⟩) 1 1) (hown : Own w B v l) (hB : B ≤ w.heap.size) (hl : l.length ≤ 1099511627776)
    (h : ∀ v' w', Own w' B v' (l ++ [c]) → BelT B w w' → wpList Tryd.prog ops Q rest (a.put o.dst v') w') :
    wpList Tryd.prog ops Q (o :: rest) a (w.alloc (.cells #[.int .u8 (c.toNat : Int)] 5)) := by
  obtain ⟨i0, hi, hz0, hz1, hz2⟩ := info_parts info_u8
  refine wpList_append_own _ hgd s x 68 ho B 5 i0 (.int .u8 0) 1 1 Tryd.underlying68 hi hz0 hz1 hz2 rfl (by decide) v l.length (bv l) hs (World.ownsRow.alloc hown _) ⟨w.heap.size, 0, none⟩ 1 1 [.int .u8 (c.toNat : Int)] hx rfl ?_ ?_ ?_ ?_ ?_ ?_
  · exact cell_one_new _ _ _
  · intro u hu; simp at hu; subst hu; rfl
  · unfold maxLen; omega
  · omega
  · simp; omega
  · intro v' w' h1 h2 _
    refine h v' w' ?_ ?_
    · unfold Own
      rw [bv_app, List.length_append]
      exact h1
    · refine ⟨((Below.refl _ _).alloc hB _).grown h2 (by simp; omega) (fun k hk => (hown.lt _ hk).1), ?_⟩
      intro k o hk ho
      refine (h2.block k (Nat.lt_of_lt_of_le (Array.getElem?_eq_some_iff.1 hk).1 (by simp)) (fun e => ?_)).trans ((Below.heap_alloc _ _ _ (Array.getElem?_eq_some_iff.1 hk).1).trans hk)
      rcases hown.2 with ⟨rfl, _⟩ | ⟨g, cap, cur, rfl, _, hgb, _⟩
      · simp [Value.ownBlock] at e
      · simp [Value.ownBlock] at e
        subst e
        rw [hgb] at hk
        injection hk with hk
        exact ho _ _ hk.symm
set_option maxRecDepth 100000 in
set_option maxHeartbeats 2000000 in
theorem putLength_t (B : Nat) (v : Value) (l : List UInt8) (n : Nat) (w : World) (hown0 : Own w B v l) (hB : B ≤ w.heap.size) (hl : l.length ≤ 549755813888) :
    Calls Tryd.prog 65 #[v, .int .i64 (n : Int)] w fun r w' => ∃ v', r = .returned v' ∧ Own w' B v' (l ++ lenB n) ∧ BelT B w w' := by
  have hLL : ∀ W, Hid (Calls Tryd.prog 73 #[.int .i64 (n : Int)] W fun r w' => r = .returned (.int .i64 (ll n : Int)) ∧ W = w') := fun W => longLength_any n W
  have hw1 := lo_wrap (n : Int)
  have hw2 := lo_wrap ((n : Int) / 256)
  have hw3 := lo_wrap ((n : Int) / 65536)
  have hw4 := lo_wrap ((n : Int) / 16777216)
  have HB : BelT B w w := BelT.refl _ _
  have hown := hown0
  clear hown0
  rcases ll_cases n with ⟨a, e⟩ | ⟨a, b, e⟩ | ⟨a, b, c, e⟩ | ⟨a, b, c, d, e⟩ | ⟨a, b, c, d, e⟩
  · have hlb : Hid (lenB n = [lo (n : Int)]) := by unfold Hid lenB; rw [if_pos a]
    rw [e] at hLL
    clear a e
    go_enter Tryd.func65, Tryd.ntmps65
    go_upto_region 11 with ((go_at_call 73; refine (hLL _).out.mono ?_; rintro r w1 ⟨rfl, rfl⟩))
    go_upto_region 12 with (at_builtin; refine push_byteT _ rfl _ _ rfl B _ ?qq1l (lo (n : Int)) rfl rfl ?qq1a ?qq1b ?qq1c ?qq1d; (case qq1a => exact hown); (case qq1b => exact Nat.le_trans hB HB.size); (case qq1c => first | exact Nat.le_trans hl (by decide) | (simp only [List.length_append, List.length_cons, List.length_nil]; omega)); intro v1 w1 hown1 hb1; replace HB := HB.trans hb1; replace hown := hown1; clear hb1)
    go_wp2_with fail
    go_ret
    exact ⟨_, rfl, by rw [hlb.out]; simpa [List.append_assoc] using hown, HB⟩
  · have hlb : Hid (lenB n = [129, lo (n : Int)]) := by unfold Hid lenB; rw [if_neg a, if_pos b]
    rw [e] at hLL
    obtain ⟨c0, hc0⟩ : ∃ c0 : UInt8, c0 = 129 := ⟨_, rfl⟩
    have hor : bits .or .u8 128 1 = (c0.toNat : Int) := by rw [hc0]; decide +kernel
    rw [← hc0] at hlb
    clear hc0
    clear a b e
    go_enter Tryd.func65, Tryd.ntmps65
    go_upto_region 11 with (first | (go_at_call 73; refine (hLL _).out.mono ?_; rintro r w1 ⟨rfl, rfl⟩) | (at_builtin; refine push_byteT _ rfl _ _ rfl B _ ?qq2l (c0) rfl rfl ?qq2a ?qq2b ?qq2c ?qq2d; (case qq2a => exact hown); (case qq2b => exact Nat.le_trans hB HB.size); (case qq2c => first | exact Nat.le_trans hl (by decide) | (simp only [List.length_append, List.length_cons, List.length_nil]; omega)); intro v1 w1 hown1 hb1; replace HB := HB.trans hb1; replace hown := hown1; clear hb1))
    go_upto_region 12 with (at_builtin; refine push_byteT _ rfl _ _ rfl B _ ?qq3l (lo (n : Int)) rfl rfl ?qq3a ?qq3b ?qq3c ?qq3d; (case qq3a => exact hown); (case qq3b => exact Nat.le_trans hB HB.size); (case qq3c => first | exact Nat.le_trans hl (by decide) | (simp only [List.length_append, List.length_cons, List.length_nil]; omega)); intro v1 w1 hown1 hb1; replace HB := HB.trans hb1; replace hown := hown1; clear hb1)
    go_wp2_with fail
    go_ret
    exact ⟨_, rfl, by rw [hlb.out]; simpa [List.append_assoc] using hown, HB⟩
  · have hlb : Hid (lenB n = [130, lo ((n : Int) / 256), lo (n : Int)]) := by unfold Hid lenB; rw [if_neg a, if_neg b, if_pos c]
    rw [e] at hLL
    obtain ⟨c0, hc0⟩ : ∃ c0 : UInt8, c0 = 130 := ⟨_, rfl⟩
    have hor : bits .or .u8 128 2 = (c0.toNat : Int) := by rw [hc0]; decide +kernel
    rw [← hc0] at hlb
    clear hc0
    clear a b c e
    go_enter Tryd.func65, Tryd.ntmps65
    go_upto_region 10 with (first | (go_at_call 73; refine (hLL _).out.mono ?_; rintro r w1 ⟨rfl, rfl⟩) | (at_builtin; refine push_byteT _ rfl _ _ rfl B _ ?qq4l (c0) rfl rfl ?qq4a ?qq4b ?qq4c ?qq4d; (case qq4a => exact hown); (case qq4b => exact Nat.le_trans hB HB.size); (case qq4c => first | exact Nat.le_trans hl (by decide) | (simp only [List.length_append, List.length_cons, List.length_nil]; omega)); intro v1 w1 hown1 hb1; replace HB := HB.trans hb1; replace hown := hown1; clear hb1))
    go_upto_region 11 with (at_builtin; refine push_byteT _ rfl _ _ rfl B _ ?qq5l (lo ((n : Int) / 256)) rfl rfl ?qq5a ?qq5b ?qq5c ?qq5d; (case qq5a => exact hown); (case qq5b => exact Nat.le_trans hB HB.size); (case qq5c => first | exact Nat.le_trans hl (by decide) | (simp only [List.length_append, List.length_cons, List.length_nil]; omega)); intro v1 w1 hown1 hb1; replace HB := HB.trans hb1; replace hown := hown1; clear hb1)
    go_upto_region 12 with (at_builtin; refine push_byteT _ rfl _ _ rfl B _ ?qq6l (lo (n : Int)) rfl rfl ?qq6a ?qq6b ?qq6c ?qq6d; (case qq6a => exact hown); (case qq6b => exact Nat.le_trans hB HB.size); (case qq6c => first | exact Nat.le_trans hl (by decide) | (simp only [List.length_append, List.length_cons, List.length_nil]; omega)); intro v1 w1 hown1 hb1; replace HB := HB.trans hb1; replace hown := hown1; clear hb1)
    go_wp2_with fail
    go_ret
    exact ⟨_, rfl, by rw [hlb.out]; simpa [List.append_assoc] using hown, HB⟩
  · have hlb : Hid (lenB n = [131, lo ((n : Int) / 65536), lo ((n : Int) / 256), lo (n : Int)]) := by unfold Hid lenB; rw [if_neg a, if_neg b, if_neg c, if_pos d]
    rw [e] at hLL
    obtain ⟨c0, hc0⟩ : ∃ c0 : UInt8, c0 = 131 := ⟨_, rfl⟩
    have hor : bits .or .u8 128 3 = (c0.toNat : Int) := by rw [hc0]; decide +kernel
    rw [← hc0] at hlb
    clear hc0
    clear a b c d e
    go_enter Tryd.func65, Tryd.ntmps65
    go_upto_region 9 with (first | (go_at_call 73; refine (hLL _).out.mono ?_; rintro r w1 ⟨rfl, rfl⟩) | (at_builtin; refine push_byteT _ rfl _ _ rfl B _ ?qq7l (c0) rfl rfl ?qq7a ?qq7b ?qq7c ?qq7d; (case qq7a => exact hown); (case qq7b => exact Nat.le_trans hB HB.size); (case qq7c => first | exact Nat.le_trans hl (by decide) | (simp only [List.length_append, List.length_cons, List.length_nil]; omega)); intro v1 w1 hown1 hb1; replace HB := HB.trans hb1; replace hown := hown1; clear hb1))
    go_upto_region 10 with (at_builtin; refine push_byteT _ rfl _ _ rfl B _ ?qq8l (lo ((n : Int) / 65536)) rfl rfl ?qq8a ?qq8b ?qq8c ?qq8d; (case qq8a => exact hown); (case qq8b => exact Nat.le_trans hB HB.size); (case qq8c => first | exact Nat.le_trans hl (by decide) | (simp only [List.length_append, List.length_cons, List.length_nil]; omega)); intro v1 w1 hown1 hb1; replace HB := HB.trans hb1; replace hown := hown1; clear hb1)
    go_upto_region 11 with (at_builtin; refine push_byteT _ rfl _ _ rfl B _ ?qq9l (lo ((n : Int) / 256)) rfl rfl ?qq9a ?qq9b ?qq9c ?qq9d; (case qq9a => exact hown); (case qq9b => exact Nat.le_trans hB HB.size); (case qq9c => first | exact Nat.le_trans hl (by decide) | (simp only [List.length_append, List.length_cons, List.length_nil]; omega)); intro v1 w1 hown1 hb1; replace HB := HB.trans hb1; replace hown := hown1; clear hb1)
    go_upto_region 12 with (at_builtin; refine push_byteT _ rfl _ _ rfl B _ ?qq10l (lo (n : Int)) rfl rfl ?qq10a ?qq10b ?qq10c ?qq10d; (case qq10a => exact hown); (case qq10b => exact Nat.le_trans hB HB.size); (case qq10c => first | exact Nat.le_trans hl (by decide) | (simp only [List.length_append, List.length_cons, List.length_nil]; omega)); intro v1 w1 hown1 hb1; replace HB := HB.trans hb1; replace hown := hown1; clear hb1)
    go_wp2_with fail
    go_ret
    exact ⟨_, rfl, by rw [hlb.out]; simpa [List.append_assoc] using hown, HB⟩
  · have hlb : Hid (lenB n = [132, lo ((n : Int) / 16777216), lo ((n : Int) / 65536), lo ((n : Int) / 256), lo (n : Int)]) := by unfold Hid lenB; rw [if_neg a, if_neg b, if_neg c, if_neg d]
    rw [e] at hLL
    obtain ⟨c0, hc0⟩ : ∃ c0 : UInt8, c0 = 132 := ⟨_, rfl⟩
    have hor : bits .or .u8 128 4 = (c0.toNat : Int) := by rw [hc0]; decide +kernel
    rw [← hc0] at hlb
    clear hc0
    clear a b c d e
    go_enter Tryd.func65, Tryd.ntmps65
    go_upto_region 8 with (first | (go_at_call 73; refine (hLL _).out.mono ?_; rintro r w1 ⟨rfl, rfl⟩) | (at_builtin; refine push_byteT _ rfl _ _ rfl B _ ?qq11l (c0) rfl rfl ?qq11a ?qq11b ?qq11c ?qq11d; (case qq11a => exact hown); (case qq11b => exact Nat.le_trans hB HB.size); (case qq11c => first | exact Nat.le_trans hl (by decide) | (simp only [List.length_append, List.length_cons, List.length_nil]; omega)); intro v1 w1 hown1 hb1; replace HB := HB.trans hb1; replace hown := hown1; clear hb1))
    go_upto_region 9 with (at_builtin; refine push_byteT _ rfl _ _ rfl B _ ?qq12l (lo ((n : Int) / 16777216)) rfl rfl ?qq12a ?qq12b ?qq12c ?qq12d; (case qq12a => exact hown); (case qq12b => exact Nat.le_trans hB HB.size); (case qq12c => first | exact Nat.le_trans hl (by decide) | (simp only [List.length_append, List.length_cons, List.length_nil]; omega)); intro v1 w1 hown1 hb1; replace HB := HB.trans hb1; replace hown := hown1; clear hb1)
    go_upto_region 10 with (at_builtin; refine push_byteT _ rfl _ _ rfl B _ ?qq13l (lo ((n : Int) / 65536)) rfl rfl ?qq13a ?qq13b ?qq13c ?qq13d; (case qq13a => exact hown); (case qq13b => exact Nat.le_trans hB HB.size); (case qq13c => first | exact Nat.le_trans hl (by decide) | (simp only [List.length_append, List.length_cons, List.length_nil]; omega)); intro v1 w1 hown1 hb1; replace HB := HB.trans hb1; replace hown := hown1; clear hb1)
    go_upto_region 11 with (at_builtin; refine push_byteT _ rfl _ _ rfl B _ ?qq14l (lo ((n : Int) / 256)) rfl rfl ?qq14a ?qq14b ?qq14c ?qq14d; (case qq14a => exact hown); (case qq14b => exact Nat.le_trans hB HB.size); (case qq14c => first | exact Nat.le_trans hl (by decide) | (simp only [List.length_append, List.length_cons, List.length_nil]; omega)); intro v1 w1 hown1 hb1; replace HB := HB.trans hb1; replace hown := hown1; clear hb1)
    go_upto_region 12 with (at_builtin; refine push_byteT _ rfl _ _ rfl B _ ?qq15l (lo (n : Int)) rfl rfl ?qq15a ?qq15b ?qq15c ?qq15d; (case qq15a => exact hown); (case qq15b => exact Nat.le_trans hB HB.size); (case qq15c => first | exact Nat.le_trans hl (by decide) | (simp only [List.length_append, List.length_cons, List.length_nil]; omega)); intro v1 w1 hown1 hb1; replace HB := HB.trans hb1; replace hown := hown1; clear hb1)
    go_wp2_with fail
    go_ret
    exact ⟨_, rfl, by rw [hlb.out]; simpa [List.append_assoc] using hown, HB⟩
set_option maxHeartbeats 1000000 in
theorem putHeader_t (B : Nat) (v : Value) (l : List UInt8) (c t : Nat) (m : Bool) (n : Nat) (w : World) (hown0 : Own w B v l) (hB : B ≤ w.heap.size) (hl : l.length ≤ 274877906944) (hc : c ≤ 3) (ht : t ≤ 30) :
    Calls Tryd.prog 51 #[v, .int .i64 (c : Int), .bool m, .int .i64 (t : Int), .int .i64 (n : Int)] w fun r w' => ∃ v', r = .returned v' ∧ Own w' B v' (l ++ (fb c m t :: lenB n)) ∧ BelT B w w' := by
  obtain ⟨C, hC⟩ : ∃ C : Int, C = (c : Int) := ⟨_, rfl⟩
  obtain ⟨T, hT⟩ : ∃ T : Int, T = (t : Int) := ⟨_, rfl⟩
  have h1 : IntKind.u8.wrap C = C := by rw [hC]; exact u8_small c (by omega)
  have h2 : IntKind.u8.wrap T = T := by rw [hT]; exact u8_small t (by omega)
  obtain ⟨C6, hC6⟩ : ∃ C6 : Int, C6 = ((c * 64 : Nat) : Int) := ⟨_, rfl⟩
  have h3 : IntKind.u8.wrap (C * 64) = C6 := by
    have e : C * 64 = ((c * 64 : Nat) : Int) := by rw [hC]; omega
    rw [e, hC6]; exact u8_small _ (by omega)
  obtain ⟨X, hX⟩ : ∃ X : Int, X = ((c * 64 + t : Nat) : Int) := ⟨_, rfl⟩
  have h4 : bits .or .u8 C6 T = X := by rw [hC6, hT, hX]; exact or_tag c t hc ht
  have h5 : bits .or .u8 X 32 = ((c * 64 + t + 32 : Nat) : Int) := by rw [hX]; exact or_made c t hc ht
  have hfb := fb_n c m t hc ht
  obtain ⟨f, hf⟩ : ∃ f, fb c m t = f := ⟨_, rfl⟩
  rw [hf] at hfb
  rw [hf, ← hC, ← hT]
  have HB : BelT B w w := BelT.refl _ _
  have hown := hown0
  clear hown0
  cases m with
  | true =>
    have h6 : bits .or .u8 X 32 = (f.toNat : Int) := by rw [h5, hfb]; simp; omega
    clear h5 hfb hX hC6 hf hC hT
    go_enter Tryd.func51, Tryd.ntmps51
    go_wp2_with (at_builtin; refine push_byteT _ rfl _ _ rfl B _ ?uu1l f rfl rfl ?uu1a ?uu1b ?uu1c ?uu1d; (case uu1a => exact hown); (case uu1b => exact Nat.le_trans hB HB.size); (case uu1c => exact Nat.le_trans hl (by decide)); intro v1 w1 hown1 hb1; replace HB := HB.trans hb1; replace hown := hown1; clear hb1)
    refine (putLength_t B _ _ n _ hown (Nat.le_trans hB HB.size) (by simp only [List.length_append, List.length_cons, List.length_nil]; omega)).mono ?_
    rintro r w2 ⟨v2, rfl, hown2, hb2⟩
    go_wp2_with fail
    go_ret
    exact ⟨_, rfl, by simpa [List.append_assoc] using hown2, HB.trans hb2⟩
  | false =>
    have h6 : X = (f.toNat : Int) := by rw [hX, hfb]; simp
    rw [h6] at h4
    clear h5 hfb hX hC6 hf hC hT h6
    go_enter Tryd.func51, Tryd.ntmps51
    go_wp2_with (at_builtin; refine push_byteT _ rfl _ _ rfl B _ ?uu2l f rfl rfl ?uu2a ?uu2b ?uu2c ?uu2d; (case uu2a => exact hown); (case uu2b => exact Nat.le_trans hB HB.size); (case uu2c => exact Nat.le_trans hl (by decide)); intro v1 w1 hown1 hb1; replace HB := HB.trans hb1; replace hown := hown1; clear hb1)
    refine (putLength_t B _ _ n _ hown (Nat.le_trans hB HB.size) (by simp only [List.length_append, List.length_cons, List.length_nil]; omega)).mono ?_
    rintro r w2 ⟨v2, rfl, hown2, hb2⟩
    go_wp2_with fail
    go_ret
    exact ⟨_, rfl, by simpa [List.append_assoc] using hown2, HB.trans hb2⟩
end Go.Proofs.YtkiidlnimjjnlaaDoor

namespace Go.Proofs.YtkiidlnimjjnlaaDoor
open Go.RowKit
open BerMath (lo)
set_option linter.unusedVariables false

theorem lo_of (n : Nat) : lo (n : Int) = UInt8.ofNat (n % 256) := by
  apply UInt8.toNat_inj.1
  have h := BerMath.lo_n (n : Int)
  rw [UInt8.toNat_ofNat']
  omega
/-- The shortest form is the form with as many bytes as it takes. -/
theorem hdr_short (c : Nat) (m : Bool) (t n : Nat) : fb c m t :: lenB n = hdrL c m t n (ll n) := by
  have e1 : ∀ a b : Nat, 0 < b → ((a : Int) / (b : Int)) = ((a / b : Nat) : Int) := fun a b _ => by rw [Int.natCast_ediv]
  unfold hdrL
  congr 1
  rcases ll_cases n with ⟨a, e⟩ | ⟨a, b, e⟩ | ⟨a, b, c, e⟩ | ⟨a, b, c, d', e⟩ | ⟨a, b, c, d', e⟩
  all_goals
    rw [e]
    unfold lenB
  · rw [if_pos a, if_pos rfl, lo_of, Nat.mod_eq_of_lt (by omega)]
  · rw [if_neg a, if_pos b, if_neg (by decide)]
    simp only [beN, lo_of, List.nil_append]
    rfl
  · rw [if_neg a, if_neg b, if_pos c, if_neg (by decide)]
    have := e1 n 256 (by decide)
    simp only [beN, lo_of, List.nil_append, List.cons_append]
    rw [show ((n : Int) / 256) = ((n / 256 : Nat) : Int) from this, lo_of]
    rfl
  · rw [if_neg a, if_neg b, if_neg c, if_pos d', if_neg (by decide)]
    simp only [beN, lo_of, List.nil_append, List.cons_append]
    rw [show ((n : Int) / 256) = ((n / 256 : Nat) : Int) from e1 n 256 (by decide), show ((n : Int) / 65536) = ((n / 65536 : Nat) : Int) from e1 n 65536 (by decide), lo_of, lo_of, Nat.div_div_eq_div_mul]
    rfl
  · rw [if_neg a, if_neg b, if_neg c, if_neg d', if_neg (by decide)]
    simp only [beN, lo_of, List.nil_append, List.cons_append]
    rw [show ((n : Int) / 256) = ((n / 256 : Nat) : Int) from e1 n 256 (by decide), show ((n : Int) / 65536) = ((n / 65536 : Nat) : Int) from e1 n 65536 (by decide), show ((n : Int) / 16777216) = ((n / 16777216 : Nat) : Int) from e1 n 16777216 (by decide), lo_of, lo_of, lo_of]
    simp only [Nat.div_div_eq_div_mul, Nat.reduceMul]
    rfl
/-- What Write answers of a tree. -/
def WrR (e : Ending) (n : Nat) (D C T : Nat → Int) (M : Nat → Bool) (B : Nat → ByteArray) : Prop :=
  ∃ (H : Nat → List UInt8) (σ : List Nat), e = .returned (.tuple #[.string (S (outB H B 0 n)), .int .i64 0, .int .i64 0]) ∧ SpI n 0 D C T M B σ H ∧ ∀ j, j < n → ∃ len, H j = hdrL (C j).toNat (M j) (T j).toNat len (ll len) ∧ len ≤ 67108864
/-- What Write answers of any list. -/
def WrE (e : Ending) (n : Nat) (D C T : Nat → Int) (M : Nat → Bool) (B : Nat → ByteArray) : Prop :=
  ((0 < n ∧ ∀ i, i < n → Good D C T M B i) ∧ WrR e n D C T M B) ∨ (∃ c q : Int, c ≠ 0 ∧ CkR n D C T M B c q ∧ e = .returned (.tuple #[.string ⟨#[]⟩, .int .i64 c, .int .i64 q]))
theorem ck_zero {n : Nat} {D C T : Nat → Int} {M : Nat → Bool} {B : Nat → ByteArray} {c q : Int} (h : CkR n D C T M B c q) : (c = 0 ∧ 0 < n ∧ ∀ i, i < n → Good D C T M B i) ∨ (c = 28 ∨ c = 25) := by
  rcases h with ⟨h1, h2, h3, _⟩ | ⟨_, h2, _⟩ | ⟨i, _, _, _, ⟨_, h⟩ | ⟨_, _, h⟩⟩
  · exact Or.inl ⟨h3, h1, (fit_iff n D C T M B).1 h2⟩
  · exact Or.inr (Or.inl h2)
  · exact Or.inr (Or.inl h)
  · exact Or.inr (Or.inr h)

set_option maxRecDepth 100000 in
set_option maxHeartbeats 4000000 in
theorem write_any (a : Option Addr) (n c : Nat) (D C T : Nat → Int) (M : Nat → Bool) (B : Nat → ByteArray) (w : World) (hn : IsNodes w a n D C T M B) (hs : bsum B n ≤ 67108864) :
    Calls Tryd.prog 41 #[.slice a n c] w fun e w' => WrE e n D C T M B ∧ Below w.heap.size w w' := by
  have hnn : n ≤ 67108864 := by have := bsum_six B n; omega
  have HC := checkTree_any a n c D C T M B w hn (by omega)
  have HG : Hid (IsNodes w a n D C T M B ∧ bsum B n ≤ 67108864 ∧ n ≤ 67108864) := ⟨hn, hs, hnn⟩
  have HC' : Hid (Calls Tryd.prog 49 #[.slice a n c] w fun e w' => CkE e n D C T M B ∧ Below w.heap.size w w') := HC
  clear hn hs hnn HC
  go_enter Tryd.func41, Tryd.ntmps41
  go_wp2_with fail
  refine HC'.out.mono ?_
  rintro r w1 ⟨⟨cc, qq, rfl, hck⟩, hb1⟩
  clear HC'
  have HB1 : Hid (Below w.heap.size w w1) := hb1
  rcases ck_zero hck with ⟨rfl, h0, hG⟩ | hbad
  · have HM : Hid (Calls Tryd.prog 50 #[.slice a n c] w1 fun e w' => MeR e w1 w' n D C T M B ∧ Below w1.heap.size w1 w') := measure_any a n c D C T M B w1 (HG.out.1.below hb1) hG h0 HG.out.2.1
    have hGd : Hid (0 < n ∧ ∀ i, i < n → Good D C T M B i) := ⟨h0, hG⟩
    clear hck hb1 h0 hG
    go_wp2_with fail
    refine HM.out.mono ?_
    rintro r w2 ⟨⟨Ls, H, σ, rfl, hI, hH, hLB⟩, hb2⟩
    have HB2 : Hid (Below w.heap.size w w2) := HB1.out.trans (hb2.mono HB1.out.size)
    have hw12 : w1.heap.size < w2.heap.size := hLB.lt
    have htot : σ.getD 1 0 ≤ 140737488355328 := by
      have h5 := hI.2.2.2.2.1
      have := BhSpM.sum_ge σ 1
      have := HG.out.2.1
      omega
    have hlen : Hid (∀ j, j ≤ n → (outB H B 0 j).length ≤ 67108864) := by
      unfold Hid
      intro j hj
      obtain ⟨len, k, rest, r1, r2, r3, r4⟩ := spI_end hGd.out.1 hI
      have h1 := outB_le H B n j hj
      have h2 : (outB H B 0 n).length = 2 + k + len := by rw [r1, List.length_append, hdrL_len, r3]
      have := HG.out.2.1
      omega
    have hR : Hid (SpI n 0 D C T M B σ H ∧ ∀ j, j < n → ∃ len, H j = hdrL (C j).toNat (M j) (T j).toNat len (ll len) ∧ len ≤ 67108864) := ⟨hI, fun j hj => ⟨_, (hH j hj).1, (hH j hj).2⟩⟩
    have hLB' : Hid (LenB w2 w1.heap.size n 0 Ls) := hLB
    have hH' : Hid (∀ j, j < n → H j = hdrL (C j).toNat (M j) (T j).toNat (Ls j) (ll (Ls j))) := fun j hj => (hH j hj).1
    obtain ⟨N, hN⟩ : ∃ N, σ.getD 1 0 = N := ⟨_, rfl⟩
    rw [hN] at htot
    have hmk := mk_cap N htot
    have hgd : σ[1]?.getD 0 = N := hN
    have hOw : Hid (Own (w2.alloc (.cells (madeCells #[.int .u8 0] N) 5)) w2.heap.size (.slice (some ⟨w2.heap.size, 0, none⟩) 0 N) []) := own_made w2 w2.heap.size N (Nat.le_refl _) htot
    clear hI hH hLB htot hb2 HM
    go_wp2_with fail
    go_loopw [10, 35] (fun ov iv wr => ∃ (j : Nat) (vo : Value), ov = vo ∧ j ≤ n ∧ iv = .int .i64 (j : Int) ∧ Hid (Own wr w2.heap.size vo (outB H B 0 j) ∧ Below w2.heap.size w2 wr)) (fun _ iv _ => n - (intOf iv).toNat)
    case atStart => exact ⟨0, _, rfl, Nat.zero_le _, rfl, hOw.out, (Below.refl _ _).alloc (Nat.le_refl _) _⟩
    case round =>
      obtain ⟨j, vo, hvo, hj, rfl, HO⟩ := hrel
      have hvo' := hvo.symm
      clear hvo
      subst hvo'
      clear hmk hOw hgd hN
      have j0 : (0 : Int) ≤ (j : Int) := Int.natCast_nonneg _
      by_cases hlt : j < n
      · have j1 : (j : Int) < (n : Int) := Int.ofNat_lt.2 hlt
        obtain ⟨b, off, rfl, c0, c1, c2, c3, c4⟩ := ((HG.out.1.below HB2.out).below HO.out.2) j hlt
        obtain ⟨gd1, gd2, gd3, gd4, _⟩ := hGd.out.2 j hlt
        have l1 : wr.cell? ⟨w1.heap.size, j, none⟩ = some (.int .i64 (Ls j : Int)) := (HO.out.2.cell hw12).trans (hLB'.out.at j (Nat.zero_le _) hlt)
        have hbx : Hid ((wr.alloc (.cells #[.int .i64 (D j), .int .i64 (C j), .bool (M j), .int .i64 (T j), .string (B j)] 38)).heap[wr.heap.size]? = some (.cells #[.int .i64 (D j), .int .i64 (C j), .bool (M j), .int .i64 (T j), .string (B j)] 38 (0, 0))) := heap_alloc_last wr _
        have hs2 : w2.heap.size ≤ wr.heap.size := HO.out.2.size
        have hOA : Hid (Own (wr.alloc (.cells #[.int .i64 (D j), .int .i64 (C j), .bool (M j), .int .i64 (T j), .string (B j)] 38)) w2.heap.size vo (outB H B 0 j)) := World.ownsRow.alloc HO.out.1 _
        have hBA : Hid (Below w2.heap.size w2 (wr.alloc (.cells #[.int .i64 (D j), .int .i64 (C j), .bool (M j), .int .i64 (T j), .string (B j)] 38))) := HO.out.2.alloc hs2 _
        have lA : (wr.alloc (.cells #[.int .i64 (D j), .int .i64 (C j), .bool (M j), .int .i64 (T j), .string (B j)] 38)).cell? ⟨w1.heap.size, j, none⟩ = some (.int .i64 (Ls j : Int)) := by rw [World.cell?_alloc_past _ _ _ (by show w1.heap.size < _; omega)]; exact l1
        have hHj : Hid (H j = hdrL (C j).toNat (M j) (T j).toNat (Ls j) (ll (Ls j))) := hH'.out j hlt
        have hl1 : Hid ((outB H B 0 j).length ≤ 67108864 ∧ (outB H B 0 (j + 1)).length ≤ 67108864) := ⟨hlen.out j hj, hlen.out (j + 1) hlt⟩
        obtain ⟨cl, hc⟩ : ∃ d : Nat, C j = (d : Int) := ⟨(C j).toNat, by omega⟩
        obtain ⟨t, ht⟩ : ∃ d : Nat, T j = (d : Int) := ⟨(T j).toNat, by omega⟩
        obtain ⟨m, hm⟩ : ∃ m, M j = m := ⟨_, rfl⟩
        obtain ⟨s, hs⟩ : ∃ s, B j = s := ⟨_, rfl⟩
        obtain ⟨dd, hdd⟩ : ∃ d, D j = d := ⟨_, rfl⟩
        have hct : Hid (cl ≤ 3 ∧ t ≤ 30) := ⟨by omega, by omega⟩
        have hsn : Hid (outB H B 0 (j + 1) = (outB H B 0 j ++ (fb cl m t :: lenB (Ls j))) ++ s.data.toList) := by
          unfold Hid
          rw [outB_snoc, hHj.out, hdr_short, hc, ht, hm, hs, Int.toNat_natCast, Int.toNat_natCast, List.append_assoc]
        have hwj := wr_up j (by have := HG.out.2.2; omega)
        have hlt' : Hid (j < n) := hlt
        rw [hdd] at c0
        rw [hc] at c1
        rw [hm] at c2
        rw [ht] at c3
        rw [hs] at c4
        rw [hdd, hc, hm, ht, hs] at hbx hOA hBA lA
        obtain ⟨Lj, hLj⟩ : ∃ x, Ls j = x := ⟨_, rfl⟩
        rw [hLj] at l1 lA hsn
        clear hc ht hm hs hdd hHj hLj gd1 gd2 gd3 gd4 hj hlt HO
        go_upto_region 11 with fail
        clear c0 c1 c2 c3 c4 l1
        obtain ⟨W1, hW1⟩ : ∃ W1, wr.alloc (.cells #[.int .i64 dd, .int .i64 (cl : Int), .bool m, .int .i64 (t : Int), .string s] 38) = W1 := ⟨_, rfl⟩
        rw [hW1] at hbx hOA hBA lA ⊢
        obtain ⟨g, hg⟩ : ∃ g, wr.heap.size = g := ⟨_, rfl⟩
        rw [hg] at hbx ⊢
        have hWs : Hid (w2.heap.size ≤ W1.heap.size) := hBA.out.size
        clear hW1 hg hs2
        have b1 : W1.cell? ⟨g, 1, none⟩ = some (.int .i64 (cl : Int)) := by simp [World.cell?, hbx.out]
        have b2 : W1.cell? ⟨g, 2, none⟩ = some (.bool m) := by simp [World.cell?, hbx.out]
        have b3 : W1.cell? ⟨g, 3, none⟩ = some (.int .i64 (t : Int)) := by simp [World.cell?, hbx.out]
        have HP : Hid (∀ W, Own W w2.heap.size vo (outB H B 0 j) → w2.heap.size ≤ W.heap.size → Calls Tryd.prog 51 #[vo, .int .i64 (cl : Int), .bool m, .int .i64 (t : Int), .int .i64 (Lj : Int)] W fun r w' => ∃ v', r = .returned v' ∧ Own w' w2.heap.size v' (outB H B 0 j ++ (fb cl m t :: lenB Lj)) ∧ BelT w2.heap.size W w') := fun W h1 h2 => putHeader_t w2.heap.size _ _ cl t m Lj W h1 h2 (by have := hl1.out.1; omega) hct.out.1 hct.out.2
        have hOD := World.ownsRow.drew hOA.out
        have hSf : Hid (∀ w5, BelT w2.heap.size W1.drew w5 → w5.cell? ⟨g, 1, none⟩ = some (.int .i64 (cl : Int)) ∧ w5.cell? ⟨g, 2, none⟩ = some (.bool m) ∧ w5.cell? ⟨g, 3, none⟩ = some (.int .i64 (t : Int)) ∧ w5.cell? ⟨w1.heap.size, j, none⟩ = some (.int .i64 (Lj : Int))) := fun w5 hb5 => by
          have q := hb5.2 g _ hbx.out (fun cs fz e => by injection e with _ e; exact absurd e (by decide))
          exact ⟨by simp [World.cell?, q], by simp [World.cell?, q], by simp [World.cell?, q], (hb5.1.cell hw12).trans lA⟩
        go_region_held3 (fun w' => w'.cell? ⟨g, 1, none⟩ = some (.int .i64 (cl : Int)) ∧ w'.cell? ⟨g, 2, none⟩ = some (.bool m) ∧ w'.cell? ⟨g, 3, none⟩ = some (.int .i64 (t : Int)) ∧ w'.cell? ⟨w1.heap.size, j, none⟩ = some (.int .i64 (Lj : Int)))
          (first | exact ⟨b1, b2, b3, lA⟩ | exact hS5)
          (first | (go_at_call 51; refine (HP.out _ hOD hWs.out).mono ?_; rintro r w5 ⟨v5, rfl, ho5, hb5⟩; have hS5 := hSf.out w5 hb5))
        have qb := hb5.2 g _ hbx.out (fun cs fz e => by injection e with _ e; exact absurd e (by decide))
        have b4 : w5.cell? ⟨g, 4, none⟩ = some (.string s) := by simp [World.cell?, qb]
        have hs5 : w2.heap.size ≤ w5.heap.size := Nat.le_trans hWs.out hb5.1.size
        have hb25 : Hid (Below w2.heap.size w2 w5) := hBA.out.drew.trans hb5.1
        have hl2 : Hid ((outB H B 0 j ++ (fb cl m t :: lenB Lj)).length + s.size ≤ 1099511627776) := by
          have h := hl1.out.2
          rw [hsn.out, List.length_append, size_l] at h
          unfold Hid
          omega
        clear qb hb5 hS5 hSf HP hOD b1 b2 b3 lA hbx hOA hBA
        go_wp2_with (at_builtin; refine push_str _ rfl _ _ rfl w2.heap.size _ (outB H B 0 j ++ (fb cl m t :: lenB Lj)) s rfl rfl ?_ ?_ ?_ ?_; (exact ho5); (exact hs5); (exact hl2.out); intro v6 w6 hown6 hb6)
        refine ⟨⟨j + 1, v6, rfl, hlt'.out, congrArg (Value.int .i64) (by rw [hwj]; omega), by rw [hsn.out]; exact hown6, hb25.out.trans hb6⟩, ?_⟩
        rw [hwj]
        have := hlt'.out
        simp [intOf]
        omega
      · obtain rfl : j = n := by omega
        have j1 : ¬ (j : Int) < (j : Int) := by omega
        have hback := own_back_any (P := Tryd.prog) wr w2.heap.size 68 9 5 _ _ _ Tryd.underlying68 Tryd.underlying5 Tryd.underlying9 HO.out.1
        have hfin : Hid (WrE (.returned (.tuple #[.string (S (outB H B 0 j)), .int .i64 0, .int .i64 0])) j D C T M B ∧ Below w.heap.size w wr) := ⟨Or.inl ⟨hGd.out, H, σ, rfl, hR.out⟩, HB2.out.trans (HO.out.2.mono HB2.out.size)⟩
        clear hR hGd HO
        go_wp2_with fail
        refine bodyPost_ret_by (v := .tuple #[.string (S (outB H B 0 j)), .int .i64 0, .int .i64 0]) (by simp [results, Tryd.results41]; try rfl) rfl hfin.out
  · have hne : Hid (WrE (.returned (.tuple #[.string ⟨#[]⟩, .int .i64 cc, .int .i64 qq])) n D C T M B) := Or.inr ⟨cc, qq, by omega, hck, rfl⟩
    have hcc : (cc != 0) = true := by
      rw [bne_iff_ne]
      omega
    clear hbad hck hb1
    go_wp2_with fail
    refine bodyPost_ret_by (v := .tuple #[.string ⟨#[]⟩, .int .i64 cc, .int .i64 qq]) (by simp [results, Tryd.results41]) rfl ⟨hne.out, HB1.out⟩
end Go.Proofs.YtkiidlnimjjnlaaDoor
