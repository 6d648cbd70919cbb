import Derived.Test.YtgfonnjblbpogaaBHeadLaw
import Derived.Test.YtgfonnjblbpogaaBJoin4
import Derived.BigQuiet
namespace Go.Proofs.Ytgfonnjblbpogaa
open Go.RowKit
set_option linter.unusedVariables false

/-- A list of nodes that came in: depth, class, made, tag, body. -/
def IsNodes (w : World) (a : Option Addr) (n : Nat) (D C T : Nat → Int) (M : Nat → Bool) (B : Nat → ByteArray) : Prop := ∀ i, i < n → ∃ b off, a = some ⟨b, off, none⟩ ∧ w.cell? ⟨b, off + i * 5, none⟩ = some (.int .i64 (D i)) ∧ w.cell? ⟨b, off + i * 5 + 1, none⟩ = some (.int .i64 (C i)) ∧ w.cell? ⟨b, off + i * 5 + 2, none⟩ = some (.bool (M i)) ∧ w.cell? ⟨b, off + i * 5 + 3, none⟩ = some (.int .i64 (T i)) ∧ w.cell? ⟨b, off + i * 5 + 4, none⟩ = some (.string (B i))
theorem IsNodes.below {w w' : World} {a : Option Addr} {n : Nat} {D C T : Nat → Int} {M : Nat → Bool} {B : Nat → ByteArray} (h : IsNodes w a n D C T M B) (hb : Below w.heap.size w w') : IsNodes w' a n D C T M B := fun i hi => by
  obtain ⟨b, off, e, h0, h1, h2, h3, h4⟩ := h i hi
  have hlt : b < w.heap.size := World.block_lt_of_cell? w _ h0
  exact ⟨b, off, e, (hb.cell hlt).trans h0, (hb.cell hlt).trans h1, (hb.cell hlt).trans h2, (hb.cell hlt).trans h3, (hb.cell hlt).trans h4⟩
/-- What a law's function answers, and what it means if it is true. -/
def Ans (e : Ending) (p : Prop) : Prop := ∃ b, e = .returned (.bool b) ∧ (b = true → p)
theorem belowN {B : Nat} {w W : World} (h : Below B w W) (q : Nat) : Below B w (W.drewN q) := h.trans ⟨rfl, rfl, rfl, Nat.le_refl _, fun _ _ => rfl⟩
theorem ans_yes {e : Ending} {p : Prop} (h : e = .returned (.bool true)) (hp : p) : Ans e p := ⟨true, h, fun _ => hp⟩
theorem ans_no {e : Ending} {p : Prop} (h : e = .returned (.bool false)) : Ans e p := ⟨false, h, fun h => by cases h⟩
/-- A node that may stand where it does. -/
def Good (D C T : Nat → Int) (M : Nat → Bool) (B : Nat → ByteArray) (i : Nat) : Prop := 0 ≤ C i ∧ C i ≤ 3 ∧ 0 ≤ T i ∧ T i ≤ 30 ∧ 1 ≤ D i ∧ D i ≤ 64 ∧ (M i = true → (B i).toList.isEmpty = true) ∧ (i = 0 → D i = 1) ∧ (∀ j, i = j + 1 → 2 ≤ D i ∧ D i ≤ D j + 1 ∧ (D j < D i → M j = true))

/-- The bytes of the bodies, six more for each. -/
def bsum (B : Nat → ByteArray) : Nat → Nat
  | 0 => 0
  | k + 1 => bsum B k + (B k).size + 6
def SmlR (e : Ending) (n : Nat) (B : Nat → ByteArray) : Prop := Ans e (bsum B n ≤ 67108864)
set_option maxRecDepth 100000 in
set_option maxHeartbeats 1000000 in
theorem small_any (a : Option Addr) (n c : Nat) (D C T : Nat → Int) (M : Nat → Bool) (B : Nat → ByteArray) (w : World) (hn : IsNodes w a n D C T M B) (hl : n ≤ 140737488355328) (hB : ∀ i, i < n → (B i).size ≤ 140737488355328) :
    Calls Try.prog 11 #[.slice a n c] w fun e w' => SmlR e n B ∧ Below w.heap.size w w' := by
  have hn' : Hid (IsNodes w a n D C T M B ∧ n ≤ 140737488355328 ∧ ∀ i, i < n → (B i).size ≤ 140737488355328) := ⟨hn, hl, hB⟩
  clear hn hl hB
  go_enter Try.func11, Try.ntmps11
  go_wp2_with fail
  go_loopw [3, 4] (fun nv iv wr => ∃ (k : Nat), k ≤ n ∧ iv = .int .i64 (k : Int) ∧ nv = .int .i64 (bsum B k : Int) ∧ bsum B k ≤ 67108864 ∧ Hid (Below w.heap.size w wr)) (fun _ iv _ => n - (intOf iv).toNat)
  case atStart => exact ⟨0, Nat.zero_le _, rfl, rfl, Nat.zero_le _, by unfold Hid; exact Below.refl _ _⟩
  case round =>
    obtain ⟨k, hk, rfl, rfl, hs, HB⟩ := hrel
    have i0 : (0 : Int) ≤ (k : Int) := Int.natCast_nonneg _
    by_cases hlt : k < n
    · have i1 : (k : Int) < (n : Int) := Int.ofNat_lt.2 hlt
      obtain ⟨b, off, rfl, e0, e1, e2, e3, e4⟩ := (hn'.out.1.below HB.out) k hlt
      have hz := hn'.out.2.2 k hlt
      have e : (bsum B (k + 1) : Nat) = bsum B k + (B k).size + 6 := rfl
      have hlt' : Hid (k < n ∧ n ≤ 140737488355328) := ⟨hlt, hn'.out.2.1⟩
      have kb : (k : Int) < 140737488355328 := by have := hlt'.out; omega
      obtain ⟨x, hx⟩ : ∃ x, bsum B k = x := ⟨_, rfl⟩
      obtain ⟨s, hsB⟩ : ∃ s, B k = s := ⟨_, rfl⟩
      rw [hx] at hs e ⊢
      rw [hsB] at hz e e4
      have w0 : wrap64 ((x : Int) + (s.size : Int)) = (x : Int) + (s.size : Int) := by unfold wrap64; omega
      have w1 : wrap64 ((x : Int) + (s.size : Int) + 6) = (x : Int) + (s.size : Int) + 6 := by unfold wrap64; omega
      by_cases hq : (67108864 : Int) < (x : Int) + (s.size : Int) + 6
      · clear hn' hx hsB e
        go_wp2_with fail
        go_ret
        exact ⟨ans_no rfl, HB.out⟩
      · have e' : Hid (bsum B (k + 1) = x + s.size + 6 ∧ x + s.size + 6 ≤ 67108864) := ⟨e, by omega⟩
        clear hn' hx hsB e hlt hk
        go_wp2_with fail
        go_roundw
        case rel => exact ⟨k + 1, hlt'.out.1, by simp, by rw [e'.out.1]; exact congrArg (Value.int .i64) (by omega), by rw [e'.out.1]; exact e'.out.2, HB⟩
        case measure => have := hlt'.out; simp [intOf]; omega
    · obtain rfl : k = n := by omega
      have i1 : ¬ (k : Int) < (k : Int) := by omega
      have hs' : Hid (bsum B k ≤ 67108864) := hs
      clear hn'
      go_wp2_with fail
      go_ret
      exact ⟨ans_yes rfl hs'.out, HB.out⟩
end Go.Proofs.Ytgfonnjblbpogaa
