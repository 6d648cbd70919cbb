import Derived.Test.YteloiehknhapfaaBInt2
import Derived.Laws.StructEq
namespace Go.Proofs.Yteloiehknhapfaa
open Go.RowKit
open BerMath (lo sz be enc sg fo val pad okInt)

set_option maxRecDepth 100000 in
set_option maxHeartbeats 1000000 in
theorem berIntBack_walk (n m : Int) (w : World) (hn : (Lit.int .i64 n).wf = true) (hm : (Lit.int .i64 m).wf = true) :
    Calls Try.prog 3 #[.int .i64 n, .int .i64 m] w fun e w' => e = .returned (.bool true) ∧ Below w.heap.size w w' := by
  obtain ⟨n1, n2⟩ := wf64 hn
  obtain ⟨m1, m2⟩ := wf64 hm
  clear hn hm
  obtain ⟨x, hx⟩ : ∃ x, x = S (enc n) := ⟨_, rfl⟩
  obtain ⟨y, hy⟩ : ∃ y, y = S (enc m) := ⟨_, rfl⟩
  have hxl : x.data.toList = enc n := by rw [hx, S_l]
  have hsz : x.size = sz n := by rw [← size_l, hxl, BerMath.enc_len]
  have hp := BerMath.sz_pos n
  have hP1 : ∀ W, Hid (Calls Try.prog 9 #[.int .i64 n] W fun e w' => e = .returned (.string x) ∧ Below W.heap.size W w') := fun W => by rw [hx]; exact putInt_any n W n1 n2
  have hP2 : ∀ W, Hid (Calls Try.prog 9 #[.int .i64 m] W fun e w' => e = .returned (.string y) ∧ Below W.heap.size W w') := fun W => by rw [hy]; exact putInt_any m W m1 m2
  have hI : ∀ W, Hid (Calls Try.prog 10 #[.string x] W fun e w' => e = .returned (.tuple #[.int .i64 n, .int .i64 0]) ∧ W = w') := fun W => by
    have := int_any x W
    rw [hxl] at this
    unfold intV at this
    rw [if_pos (BerMath.okInt_enc n n1 n2), BerMath.val_enc n n1 n2] at this
    exact this
  have z1 : (1 : Int) ≤ (x.size : Int) := by omega
  have z2 : (x.size : Int) ≤ 8 := by omega
  have zz : 0 < x.size := by omega
  have h0 : x[0]'zz = (enc n).getD 0 0 := by rw [← hxl, getD_s x 0 (by omega)]
  have hsg := BerMath.sg_enc n n1 n2
  rw [← h0] at hsg
  obtain ⟨neg, d1, d2⟩ : ∃ neg : Bool, decide ((128 : Int) ≤ ((x[0]'zz).toNat : Int)) = neg ∧ decide (n < 0) = neg := ⟨decide (n < 0), by rw [decide_eq_decide]; omega, rfl⟩
  obtain ⟨same, d3, d4⟩ : ∃ same : Bool, (x.toList == y.toList) = same ∧ (n == m) = same := by
    refine ⟨n == m, ?_, rfl⟩
    rw [Lib.toList_data, Lib.toList_data, Bool.eq_iff_iff, beq_iff_eq, beq_iff_eq, hx, hy, S_l, S_l]
    exact ⟨BerMath.enc_inj n m n1 n2 m1 m2, fun h => by rw [h]⟩
  have HB : Below w.heap.size w w := Below.refl _ _
  clear hsg h0 hsz hxl hx hy hp n1 n2 m1 m2
  cases neg <;> cases same
  all_goals
    go_enter Try.func3, Try.ntmps3
    go_wp2_with (go_at_call 9; refine (hP1 _).out.mono ?_; rintro e w1 ⟨rfl, hb1⟩; replace HB := HB.trans (hb1.mono HB.size); clear hb1 hP1)
    refine (hI _).out.mono ?_
    rintro e w2 ⟨rfl, rfl⟩
    clear hI
    go_wp2_with (go_at_call 9; refine (hP2 _).out.mono ?_; rintro e w3 ⟨rfl, hb1⟩; replace HB := HB.trans (hb1.mono HB.size); clear hb1 hP2)
    go_ret
    exact ⟨rfl, HB⟩
end Go.Proofs.Yteloiehknhapfaa
