import Derived.Test.YteloiehknhapfaaBRefInt
namespace Go.Proofs.Yteloiehknhapfaa
open Go.RowKit
open BerMath (enc val okInt)

/-- What Bool answers. -/
def boolV (s : ByteArray) : Value := if h : s.size = 1 then .tuple #[.bool (!(((s[0]'(by omega)).toNat : Int) == 0)), .int .i64 0] else .tuple #[.bool false, .int .i64 29]
theorem bool_any (s : ByteArray) (w : World) : Calls Try.prog 16 #[.string s] w fun e w' => e = .returned (boolV s) ∧ w = w' := by
  by_cases h : s.size = 1
  · have z : (!((s.size : Int) == 1)) = false := by rw [h]; rfl
    have y : (1 : Int) ≤ (s.size : Int) := by omega
    unfold boolV
    rw [dif_pos h]
    go_enter Try.func16, Try.ntmps16
    go_wp2
    go_ret2
    exact ⟨rfl, rfl⟩
  · have z : ((s.size : Int) == 1) = false := by rw [beq_eq_false_iff_ne]; omega
    unfold boolV
    rw [dif_neg h]
    go_enter Try.func16, Try.ntmps16
    go_wp2
    go_ret2
    exact ⟨rfl, rfl⟩
theorem refBool_any (s : ByteArray) (w : World) : Calls Try.prog 17 #[.string s] w fun e w' => e = .returned (boolV s) ∧ w = w' := by
  by_cases h : s.size = 1
  · have z : (!((s.size : Int) == 1)) = false := by rw [h]; rfl
    have y : (1 : Int) ≤ (s.size : Int) := by omega
    unfold boolV
    rw [dif_pos h]
    go_enter Try.func17, Try.ntmps17
    go_wp2
    go_ret2
    exact ⟨rfl, rfl⟩
  · have z : ((s.size : Int) == 1) = false := by rw [beq_eq_false_iff_ne]; omega
    unfold boolV
    rw [dif_neg h]
    go_enter Try.func17, Try.ntmps17
    go_wp2
    go_ret2
    exact ⟨rfl, rfl⟩
def pbV (v : Bool) : ByteArray := if v then ⟨#[255]⟩ else ⟨#[0]⟩
theorem putBool_any (v : Bool) (w : World) : Calls Try.prog 19 #[.bool v] w fun e w' => e = .returned (.string (pbV v)) ∧ w = w' := by
  cases v
  all_goals
    go_enter Try.func19, Try.ntmps19
    go_wp2
    go_ret
    exact ⟨rfl, rfl⟩
theorem refPutBool_any (v : Bool) (w : World) : Calls Try.prog 20 #[.bool v] w fun e w' => e = .returned (.string (pbV v)) ∧ w = w' := by
  cases v
  all_goals
    go_enter Try.func20, Try.ntmps20
    go_wp2
    go_ret
    exact ⟨rfl, rfl⟩

theorem intV_two (l : List UInt8) : ∃ a b, intV l = .tuple #[.int .i64 a, .int .i64 b] := by
  unfold intV; split
  · exact ⟨_, _, rfl⟩
  · exact ⟨_, _, rfl⟩
theorem boolV_two (s : ByteArray) : ∃ a b, boolV s = .tuple #[.bool a, .int .i64 b] := by
  unfold boolV; split
  · exact ⟨_, _, rfl⟩
  · exact ⟨_, _, rfl⟩

set_option maxRecDepth 100000 in
set_option maxHeartbeats 1000000 in
theorem berInt_walk (s : ByteArray) (n : Int) (v : Bool) (w : World) (_ : s.size ≤ reachBytes) (hn : (Lit.int .i64 n).wf = true) :
    Calls Try.prog 7 #[.string s, .int .i64 n, .bool v] w fun e w' => e = .returned (.bool true) ∧ Below w.heap.size w w' := by
  obtain ⟨n1, n2⟩ := wf64 hn
  obtain ⟨a, b, hab⟩ := intV_two s.data.toList
  obtain ⟨c, d, hcd⟩ := boolV_two s
  have H1 : ∀ W, Hid (Calls Try.prog 10 #[.string s] W fun e w' => e = .returned (.tuple #[.int .i64 a, .int .i64 b]) ∧ W = w') := fun W => by have := int_any s W; rw [hab] at this; exact this
  have H2 : ∀ W, Hid (Calls Try.prog 15 #[.string s] W fun e w' => e = .returned (.tuple #[.int .i64 a, .int .i64 b]) ∧ Below W.heap.size W w') := fun W => by have := refInt_any s W; rw [hab] at this; exact this
  have H3 : ∀ W, Hid (Calls Try.prog 16 #[.string s] W fun e w' => e = .returned (.tuple #[.bool c, .int .i64 d]) ∧ W = w') := fun W => by have := bool_any s W; rw [hcd] at this; exact this
  have H4 : ∀ W, Hid (Calls Try.prog 17 #[.string s] W fun e w' => e = .returned (.tuple #[.bool c, .int .i64 d]) ∧ W = w') := fun W => by have := refBool_any s W; rw [hcd] at this; exact this
  obtain ⟨x, hx⟩ : ∃ x, S (enc n) = x := ⟨_, rfl⟩
  have H5 : ∀ W, Hid (Calls Try.prog 9 #[.int .i64 n] W fun e w' => e = .returned (.string x) ∧ Below W.heap.size W w') := fun W => by rw [← hx]; exact putInt_any n W n1 n2
  have H6 : ∀ W, Hid (Calls Try.prog 18 #[.int .i64 n] W fun e w' => e = .returned (.string x) ∧ Below W.heap.size W w') := fun W => by rw [← hx]; exact refPutInt_any n W n1 n2
  obtain ⟨y, hy⟩ : ∃ y, pbV v = y := ⟨_, rfl⟩
  have H7 : ∀ W, Hid (Calls Try.prog 19 #[.bool v] W fun e w' => e = .returned (.string y) ∧ W = w') := fun W => by rw [← hy]; exact putBool_any v W
  have H8 : ∀ W, Hid (Calls Try.prog 20 #[.bool v] W fun e w' => e = .returned (.string y) ∧ W = w') := fun W => by rw [← hy]; exact refPutBool_any v W
  have HB : Below w.heap.size w w := Below.refl _ _
  clear hab hcd hx hy hn n1 n2
  go_enter Try.func7, Try.ntmps7
  go_wp2_with (first
    | (go_at_call 10; refine (H1 _).out.mono ?_; rintro e w1 ⟨rfl, rfl⟩)
    | (go_at_call 15; refine (H2 _).out.mono ?_; rintro e w1 ⟨rfl, hb1⟩; replace HB := HB.trans (hb1.mono HB.size); clear hb1)
    | (go_at_call 16; refine (H3 _).out.mono ?_; rintro e w1 ⟨rfl, rfl⟩)
    | (go_at_call 17; refine (H4 _).out.mono ?_; rintro e w1 ⟨rfl, rfl⟩)
    | (go_at_call 9; refine (H5 _).out.mono ?_; rintro e w1 ⟨rfl, hb1⟩; replace HB := HB.trans (hb1.mono HB.size); clear hb1)
    | (go_at_call 18; refine (H6 _).out.mono ?_; rintro e w1 ⟨rfl, hb1⟩; replace HB := HB.trans (hb1.mono HB.size); clear hb1)
    | (go_at_call 19; refine (H7 _).out.mono ?_; rintro e w1 ⟨rfl, rfl⟩)
    | (go_at_call 20; refine (H8 _).out.mono ?_; rintro e w1 ⟨rfl, rfl⟩))
  go_ret
  exact ⟨rfl, HB⟩
end Go.Proofs.Yteloiehknhapfaa
