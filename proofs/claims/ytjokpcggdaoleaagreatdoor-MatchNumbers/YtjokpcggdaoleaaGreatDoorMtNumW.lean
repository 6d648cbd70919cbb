import Derived.Test.YtjokpcggdaoleaaGreatDoorMtNumL
namespace Go.Proofs.YtjokpcggdaoleaaGreatDoor
open Go.RowKit
set_option linter.unusedVariables false

set_option maxRecDepth 100000 in
set_option maxHeartbeats 4000000 in
theorem matchNumbers_walk (x y : Int) (w : World) (h0 : -9223372036854775808 ≤ x) (h1 : x ≤ 9223372036854775807) (k0 : -9223372036854775808 ≤ y) (k1 : y ≤ 9223372036854775807) (ht : TabW w) (ev : Value) (hE : ErrV ev w) : Calls Tryz.prog 5 #[.int .i64 x, .int .i64 y] w fun e w' => e = .returned (.bool true) ∧ Below w.heap.size w w' := by
  obtain ⟨A, B, hA, hB, hE1, hE2, hE3, hR1, hR2, hR3, hR4⟩ := nums_pack x y h0 h1 k0 k1 ev
  have hI1 : ∀ W, TabW W → Hid (Calls Tryz.prog 11 #[.int .i64 x] W fun e w' => e = .returned (.string A) ∧ Below W.heap.size W w') := fun W h => by rw [← hA]; exact itoa_any x h0 h1 W h
  have hI2 : ∀ W, TabW W → Hid (Calls Tryz.prog 11 #[.int .i64 y] W fun e w' => e = .returned (.string B) ∧ Below W.heap.size W w') := fun W h => by rw [← hB]; exact itoa_any y k0 k1 W h
  have hT : ∀ (b : Bool) (W : World), Hid (Calls Tryz.prog 7 #[.bool b] W fun e w' => e = .returned (.int .i64 (tB b)) ∧ w' = W) := fun b W => truth_any b W
  have hT1 := hT (x == y)
  have hT2 := hT (decide (x ≥ y))
  have hT3 := hT (decide (x ≤ y))
  have hT4 := hT (decide (x < y))
  have hT5 := hT (bits .and .i64 x y == y)
  have hT6 := hT (bits .and .i64 x y != 0)
  generalize tB (x == y) = t1 at *
  generalize tB (decide (x ≥ y)) = t2 at *
  generalize tB (decide (x ≤ y)) = t3 at *
  generalize tB (decide (x < y)) = t4 at *
  generalize tB (bits .and .i64 x y == y) = t5 at *
  generalize tB (bits .and .i64 x y != 0) = t6 at *
  have hE' : Hid (ErrV ev w) := hE
  have ht' : Hid (TabW w) := ht
  have o0 : Hid (Below w.heap.size w w) := Below.refl _ _
  clear hA hB hT hE ht h0 h1 k0 k1
  go_enter Tryz.func5, Tryz.ntmps5
  go_wp2_with fail
  refine (hI1 _ ht'.out).out.mono ?_
  rintro e w1 ⟨rfl, hb⟩
  have o1 : Hid (Below w.heap.size w w1) := o0.out.trans (hb.mono o0.out.size)
  clear hb
  go_wp2_with fail
  refine (hI2 _ (ht'.out.below o1.out)).out.mono ?_
  rintro e w2 ⟨rfl, hb⟩
  have o2 : Hid (Below w.heap.size w w2) := o1.out.trans (hb.mono o1.out.size)
  clear hb
  go_wp2_with fail
  refine (hE1 _).out.mono ?_
  rintro e w3 ⟨rfl, hb⟩
  have o3 : Hid (Below w.heap.size w w3) := o2.out.trans (hb.mono o2.out.size)
  clear hb
  go_wp2_with fail
  refine (hT1 _).out.mono ?_
  rintro e w' ⟨rfl, rfl⟩
  go_wp2_with fail
  refine (hE2 _).out.mono ?_
  rintro e w4 ⟨rfl, hb⟩
  have o4 : Hid (Below w.heap.size w w4) := o3.out.trans (hb.mono o3.out.size)
  clear hb
  go_wp2_with fail
  refine (hT2 _).out.mono ?_
  rintro e w' ⟨rfl, rfl⟩
  go_wp2_with fail
  refine (hE3 _).out.mono ?_
  rintro e w5 ⟨rfl, hb⟩
  have o5 : Hid (Below w.heap.size w w5) := o4.out.trans (hb.mono o4.out.size)
  clear hb
  go_wp2_with fail
  refine (hT3 _).out.mono ?_
  rintro e w' ⟨rfl, rfl⟩
  go_wp2_with fail
  refine (hR1 _).out.mono ?_
  rintro e w6 ⟨rfl, hb⟩
  have o6 : Hid (Below w.heap.size w w6) := o5.out.trans (hb.mono o5.out.size)
  clear hb
  go_wp2_with fail
  refine (hT4 _).out.mono ?_
  rintro e w' ⟨rfl, rfl⟩
  go_wp2_with fail
  refine (hR2 _).out.mono ?_
  rintro e w7 ⟨rfl, hb⟩
  have o7 : Hid (Below w.heap.size w w7) := o6.out.trans (hb.mono o6.out.size)
  clear hb
  go_wp2_with fail
  refine (hT1 _).out.mono ?_
  rintro e w' ⟨rfl, rfl⟩
  go_wp2_with fail
  refine (hR3 _ (hE'.out.below' o7.out)).out.mono ?_
  rintro e w8 ⟨rfl, hb⟩
  have o8 : Hid (Below w.heap.size w w8) := o7.out.trans (hb.mono o7.out.size)
  clear hb
  go_wp2_with fail
  refine (hT5 _).out.mono ?_
  rintro e w' ⟨rfl, rfl⟩
  go_wp2_with fail
  refine (hR4 _ (hE'.out.below' o8.out)).out.mono ?_
  rintro e w9 ⟨rfl, hb⟩
  have o9 : Hid (Below w.heap.size w w9) := o8.out.trans (hb.mono o8.out.size)
  clear hb
  go_wp2_with fail
  refine (hT6 _).out.mono ?_
  rintro e w' ⟨rfl, rfl⟩
  go_wp2_with fail
  go_ret
  exact ⟨by first | rfl | simp, o9.out⟩
end Go.Proofs.YtjokpcggdaoleaaGreatDoor
