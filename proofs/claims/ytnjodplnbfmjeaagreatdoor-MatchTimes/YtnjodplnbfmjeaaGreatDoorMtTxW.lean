import Derived.Test.YtnjodplnbfmjeaaGreatDoorMtTxV
import Derived.Test.YtnjodplnbfmjeaaGreatDoorMtTxZ
namespace Go.Proofs.YtnjodplnbfmjeaaGreatDoor
open Go.RowKit
set_option linter.unusedVariables false
set_option linter.unusedSimpArgs false
namespace Tc
open Mt

theorem st5_drop (V : World) (k : Nat) (y mo d m z : Int) : st5 V k y mo d m z = ((((V.setCell ⟨k, 0, none⟩ (.int .i64 y)).setCell ⟨k, 1, none⟩ (.int .i64 mo)).setCell ⟨k, 2, none⟩ (.int .i64 d)).setCell ⟨k, 3, none⟩ (.int .i64 m)).setCell ⟨k, 4, none⟩ (.int .i64 z) := rfl
theorem bnd {y mo d m z : Int} : ∃ (a b c e : Nat) (q : Int), inV y 0 9999 = (a : Int) ∧ inV mo 1 12 = (b : Int) ∧ inV d 2 27 = (c : Int) ∧ inV m 0 1439 = (e : Int) ∧ inV z 0 2878 - 1439 = q ∧ WhB a b c e q := by
  have h1 := inV_bnd (n := y) (show (0 : Int) ≤ 9999 by decide)
  have h2 := inV_bnd (n := mo) (show (1 : Int) ≤ 12 by decide)
  have h3 := inV_bnd (n := d) (show (2 : Int) ≤ 27 by decide)
  have h4 := inV_bnd (n := m) (show (0 : Int) ≤ 1439 by decide)
  have h5 := inV_bnd (n := z) (show (0 : Int) ≤ 2878 by decide)
  exact ⟨(inV y 0 9999).toNat, (inV mo 1 12).toNat, (inV d 2 27).toNat, (inV m 0 1439).toNat, _, by omega, by omega, by omega, by omega, rfl, by omega, by omega, by omega, by omega, by omega⟩
theorem key_int (a b c e : Nat) : ((((a : Int) * 12 + (b : Int)) * 31 + (c : Int)) * 1440 + (e : Int)) = (key a b c e : Int) := by
  unfold key
  omega
theorem key_wraps {a b c e : Nat} {q : Int} (h : WhB a b c e q) : wrap64 ((a : Int) * 12) = (a : Int) * 12 ∧ wrap64 ((a : Int) * 12 + (b : Int)) = (a : Int) * 12 + (b : Int) ∧ wrap64 (((a : Int) * 12 + (b : Int)) * 31) = ((a : Int) * 12 + (b : Int)) * 31 ∧ wrap64 (((a : Int) * 12 + (b : Int)) * 31 + (c : Int)) = ((a : Int) * 12 + (b : Int)) * 31 + (c : Int) ∧ wrap64 ((((a : Int) * 12 + (b : Int)) * 31 + (c : Int)) * 1440) = (((a : Int) * 12 + (b : Int)) * 31 + (c : Int)) * 1440 ∧ wrap64 ((((a : Int) * 12 + (b : Int)) * 31 + (c : Int)) * 1440 + (e : Int)) = (((a : Int) * 12 + (b : Int)) * 31 + (c : Int)) * 1440 + (e : Int) := by
  obtain ⟨hy, hmo, hd, hm, hz⟩ := h
  refine ⟨?_, ?_, ?_, ?_, ?_, ?_⟩ <;> (unfold wrap64; omega)
/-- The steps of the number of a minute, each under a letter. -/
theorem key_steps {a b c e : Nat} {q : Int} (h : WhB a b c e q) : ∃ k1 k2 k3 k4 k5 X : Int, wrap64 ((a : Int) * 12) = k1 ∧ wrap64 (k1 + (b : Int)) = k2 ∧ wrap64 (k2 * 31) = k3 ∧ wrap64 (k3 + (c : Int)) = k4 ∧ wrap64 (k4 * 1440) = k5 ∧ wrap64 (k5 + (e : Int)) = X ∧ X = (key a b c e : Int) := by
  obtain ⟨w1, w2, w3, w4, w5, w6⟩ := key_wraps h
  exact ⟨_, _, _, _, _, _, w1, w2, w3, w4, w5, w6, key_int a b c e⟩
set_option maxRecDepth 100000 in
set_option maxHeartbeats 8000000 in
theorem matchTimes_walk (y mo d m z y2 mo2 d2 m2 z2 : Int) (w : World) (iy : I64 y) (imo : I64 mo) (id : I64 d) (im : I64 m) (iz : I64 z) (iy2 : I64 y2) (imo2 : I64 mo2) (id2 : I64 d2) (im2 : I64 m2) (iz2 : I64 z2) (ht : TbW w) :
    Calls Tryz.prog 3 #[.agg #[.int .i64 y, .int .i64 mo, .int .i64 d, .int .i64 m, .int .i64 z], .agg #[.int .i64 y2, .int .i64 mo2, .int .i64 d2, .int .i64 m2, .int .i64 z2]] w fun e w' => e = .returned (.bool true) ∧ Below w.heap.size w w' := by
  obtain ⟨a, b, c, e1, q, va, vb, vc, ve, vq, hv⟩ := bnd (y := y) (mo := mo) (d := d) (m := m) (z := z)
  obtain ⟨a2, b2, c2, e2, q2, va2, vb2, vc2, ve2, vq2, hv2⟩ := bnd (y := y2) (mo := mo2) (d := d2) (m := m2) (z := z2)
  have hW1 : ∀ W, Hid (Calls Tryz.prog 4 #[.agg #[.int .i64 y, .int .i64 mo, .int .i64 d, .int .i64 m, .int .i64 z]] W fun e w' => e = .returned (.agg #[.int .i64 (a : Int), .int .i64 (b : Int), .int .i64 (c : Int), .int .i64 (e1 : Int), .int .i64 q]) ∧ Below W.heap.size W w') := fun W => by
    have := Mt.within_any y mo d m z W iy imo id im iz
    rw [va, vb, vc, ve, vq] at this
    exact this
  have hW2 : ∀ W, Hid (Calls Tryz.prog 4 #[.agg #[.int .i64 y2, .int .i64 mo2, .int .i64 d2, .int .i64 m2, .int .i64 z2]] W fun e w' => e = .returned (.agg #[.int .i64 (a2 : Int), .int .i64 (b2 : Int), .int .i64 (c2 : Int), .int .i64 (e2 : Int), .int .i64 q2]) ∧ Below W.heap.size W w') := fun W => by
    have := Mt.within_any y2 mo2 d2 m2 z2 W iy2 imo2 id2 im2 iz2
    rw [va2, vb2, vc2, ve2, vq2] at this
    exact this
  obtain ⟨la, ga, hZ1⟩ := zone_pack hv
  obtain ⟨lb, gb, hZ2⟩ := zone_pack hv2
  have hU1 : ∀ W, Hid (Calls Tryz.prog 7 #[.agg #[.int .i64 (a : Int), .int .i64 (b : Int), .int .i64 (c : Int), .int .i64 (e1 : Int), .int .i64 q]] W fun e w' => e = .returned (.string (S (hdT a b c (e1 / 60) (e1 % 60) [90]))) ∧ Below W.heap.size W w') := fun W => inUTC_any a b c e1 q W hv.1 (by have := hv.2.1; omega) (by have := hv.2.2.1; omega) hv.2.2.2.1
  have hU2 : ∀ W, Hid (Calls Tryz.prog 7 #[.agg #[.int .i64 (a2 : Int), .int .i64 (b2 : Int), .int .i64 (c2 : Int), .int .i64 (e2 : Int), .int .i64 q2]] W fun e w' => e = .returned (.string (S (hdT a2 b2 c2 (e2 / 60) (e2 % 60) [90]))) ∧ Below W.heap.size W w') := fun W => inUTC_any a2 b2 c2 e2 q2 W hv2.1 (by have := hv2.2.1; omega) (by have := hv2.2.2.1; omega) hv2.2.2.2.1
  have hE1 : ∀ W, Below w.heap.size w W → Hid (Calls Tryz.prog 6 #[.int .i64 12, .string (S la), .string (S (hdT a b c (e1 / 60) (e1 % 60) [90]))] W fun e w' => e = .returned (.int .i64 2) ∧ Below W.heap.size W w') := fun W hb => ga.eq (is_utc hv) (if_pos rfl).symm W (ht.below hb)
  have hE2 : ∀ W, Below w.heap.size w W → Hid (Calls Tryz.prog 6 #[.int .i64 12, .string (S (hdT a2 b2 c2 (e2 / 60) (e2 % 60) [90])), .string (S lb)] W fun e w' => e = .returned (.int .i64 2) ∧ Below W.heap.size W w') := fun W hb => (is_utc hv2).eq gb (if_pos rfl).symm W (ht.below hb)
  obtain ⟨k1, k2, k3, k4, k5, X, s1, s2, s3, s4, s5, s6, hX⟩ := key_steps hv
  obtain ⟨j1, j2, j3, j4, j5, Y, r1, r2, r3, r4, r5, r6, hY⟩ := key_steps hv2
  obtain ⟨bE, bL, bM, tE, tL, tM, g1, g2, g3, hTE, hTL, hTM, hE3, hLs, hMs⟩ := pair_pack hv hv2 ga gb X Y hX hY w ht
  obtain ⟨U, X1, X2, X3, X4, X5, X6, X7, X8, X9, X10, hU, hUZ, hUx, hUle, hUs, p1, p2, p3, p4, p5, p6, p7, p8, p9, p10, f1, f2, f3, f4, f5, f6⟩ := sec_pack hv w ht
  rw [hUZ] at hUx hUle
  simp only [hUZ] at hU1 hE1
  have z1 : ¬ 9223372036854775807 < U.size + 1 := by rw [hUs]; decide
  have z3 : ¬ 9223372036854775807 < U.size + 3 := by rw [hUs]; decide
  have z5 : ¬ 9223372036854775807 < U.size + 5 := by rw [hUs]; decide
  have z6 : ¬ 9223372036854775807 < U.size + 6 := by rw [hUs]; decide
  have z7 : ¬ 9223372036854775807 < U.size + 7 := by rw [hUs]; decide
  obtain ⟨UW, hUW⟩ : ∃ UW : ByteArray, S (hdT a2 b2 c2 (e2 / 60) (e2 % 60) [90]) = UW := ⟨_, rfl⟩
  simp only [hUW] at hU2 hE2
  obtain ⟨A, hA⟩ : ∃ A : ByteArray, S la = A := ⟨_, rfl⟩
  obtain ⟨B, hB⟩ : ∃ B : ByteArray, S lb = B := ⟨_, rfl⟩
  simp only [hA] at hZ1 hE1 hE3 hLs hMs
  simp only [hB] at hZ2 hE2 hE3 hLs hMs
  unfold whV at hZ1 hZ2
  obtain ⟨Wa, hWa⟩ : ∃ W, w.alloc (.cells #[.int .i64 y, .int .i64 mo, .int .i64 d, .int .i64 m, .int .i64 z] 23) = W := ⟨_, rfl⟩
  obtain ⟨Wb, hWb⟩ : ∃ W, Wa.alloc (.cells #[.int .i64 y2, .int .i64 mo2, .int .i64 d2, .int .i64 m2, .int .i64 z2] 23) = W := ⟨_, rfl⟩
  have na : Wa.heap.size = w.heap.size + 1 := by rw [← hWa]; simp
  have pa : WhV Wa w.heap.size y mo d m z := by rw [← hWa]; exact heap_alloc_last w _
  have hL0 : Hid (LwS w y mo d m z y2 mo2 d2 m2 z2 Wb) := by
    refine ⟨by rw [← hWb]; exact pa.of_block (Below.heap_alloc _ _ _ pa.lt), by rw [← hWb, ← na]; exact heap_alloc_last Wa _, ?_⟩
    rw [← hWb, ← hWa]; exact ((Below.refl _ _).alloc (Nat.le_refl _) _).alloc (by simp) _
  clear hU hUZ hUs hUW hA hB hX hY hv hv2 ga gb va vb vc ve vq va2 vb2 vc2 ve2 vq2 iy imo id im iz iy2 imo2 id2 im2 iz2 ht pa
  obtain ⟨⟨c0, c1, c2', c3, c4⟩, cf⟩ := hL0.out.1.cells
  go_enter Tryz.func3, Tryz.ntmps3
  go_wp2_with fail
  clear hWa hWb na
  refine (hW1 _).out.mono ?_
  rintro e w1 ⟨rfl, hb⟩
  have hL1 : Hid (LwS w y mo d m z y2 mo2 d2 m2 z2 w1) := hL0.out.below hb
  clear hb
  clear hW1 hL0 c0 c1 c2' c3 c4 cf
  obtain ⟨⟨c0, c1, c2', c3, c4⟩, cf⟩ := hL1.out.1.cells
  have hL2 : Hid (LwS w (a : Int) (b : Int) (c : Int) (e1 : Int) q y2 mo2 d2 m2 z2 (st5 w1 w.heap.size (a : Int) (b : Int) (c : Int) (e1 : Int) q)) := ⟨st5_at hL1.out.1 _ _ _ _ _, st5_off hL1.out.2.1 (by omega) _ _ _ _ _, st5_below hL1.out.2.2 (Nat.le_refl _) _ _ _ _ _⟩
  rw [st5_drop] at hL2
  go_upto_region 2 with fail
  obtain ⟨W2, hW2'⟩ : ∃ X, ((((w1.setCell ⟨w.heap.size, 0, none⟩ (.int .i64 (a : Int))).setCell ⟨w.heap.size, 1, none⟩ (.int .i64 (b : Int))).setCell ⟨w.heap.size, 2, none⟩ (.int .i64 (c : Int))).setCell ⟨w.heap.size, 3, none⟩ (.int .i64 (e1 : Int))).setCell ⟨w.heap.size, 4, none⟩ (.int .i64 q) = X := ⟨_, rfl⟩
  rw [hW2'] at hL2 ⊢
  clear hW2' hL1 c0 c1 c2' c3 c4 cf
  obtain ⟨⟨x0, x1, x2, x3, x4⟩, xf⟩ := hL2.out.2.1.cells
  go_wp2_with fail
  refine (hW2 _).out.mono ?_
  rintro e w3 ⟨rfl, hb⟩
  have hL3 : Hid (LwS w (a : Int) (b : Int) (c : Int) (e1 : Int) q y2 mo2 d2 m2 z2 w3) := hL2.out.below hb
  clear hb
  clear hW2 hL2 x0 x1 x2 x3 x4 xf
  obtain ⟨⟨x0, x1, x2, x3, x4⟩, xf⟩ := hL3.out.2.1.cells
  have hL4 : Hid (LwS w (a : Int) (b : Int) (c : Int) (e1 : Int) q (a2 : Int) (b2 : Int) (c2 : Int) (e2 : Int) q2 (st5 w3 (w.heap.size + 1) (a2 : Int) (b2 : Int) (c2 : Int) (e2 : Int) q2)) := ⟨st5_off hL3.out.1 (by omega) _ _ _ _ _, st5_at hL3.out.2.1 _ _ _ _ _, st5_below hL3.out.2.2 (Nat.le_succ _) _ _ _ _ _⟩
  rw [st5_drop] at hL4
  go_upto_region 3 with fail
  obtain ⟨W4, hW4⟩ : ∃ X, ((((w3.setCell ⟨w.heap.size + 1, 0, none⟩ (.int .i64 (a2 : Int))).setCell ⟨w.heap.size + 1, 1, none⟩ (.int .i64 (b2 : Int))).setCell ⟨w.heap.size + 1, 2, none⟩ (.int .i64 (c2 : Int))).setCell ⟨w.heap.size + 1, 3, none⟩ (.int .i64 (e2 : Int))).setCell ⟨w.heap.size + 1, 4, none⟩ (.int .i64 q2) = X := ⟨_, rfl⟩
  rw [hW4] at hL4 ⊢
  clear hW4 hL3 x0 x1 x2 x3 x4 xf
  obtain ⟨⟨c0, c1, c2', c3, c4⟩, cf⟩ := hL4.out.1.cells
  go_wp2_with fail
  refine (hZ1 _).out.mono ?_
  rintro e w5 ⟨rfl, hb⟩
  have hL5 : Hid (LwS w (a : Int) (b : Int) (c : Int) (e1 : Int) q (a2 : Int) (b2 : Int) (c2 : Int) (e2 : Int) q2 w5) := hL4.out.below hb
  clear hb
  clear hZ1 hL4 c0 c1 c2' c3 c4 cf
  obtain ⟨⟨x0, x1, x2, x3, x4⟩, xf⟩ := hL5.out.2.1.cells
  go_wp2_with fail
  refine (hZ2 _).out.mono ?_
  rintro e w6 ⟨rfl, hb⟩
  have hL6 : Hid (LwS w (a : Int) (b : Int) (c : Int) (e1 : Int) q (a2 : Int) (b2 : Int) (c2 : Int) (e2 : Int) q2 w6) := hL5.out.below hb
  clear hb
  clear hZ2 hL5 x0 x1 x2 x3 x4 xf
  obtain ⟨⟨c0, c1, c2', c3, c4⟩, cf⟩ := hL6.out.1.cells
  go_wp2_with fail
  refine (hU1 _).out.mono ?_
  rintro e w7 ⟨rfl, hb⟩
  have hL7 : Hid (LwS w (a : Int) (b : Int) (c : Int) (e1 : Int) q (a2 : Int) (b2 : Int) (c2 : Int) (e2 : Int) q2 w7) := hL6.out.below hb
  clear hb
  clear hL6 c0 c1 c2' c3 c4 cf
  have hE1' := hE1 w7 hL7.out.2.2
  clear hE1
  go_wp2_with fail
  refine hE1'.out.mono ?_
  rintro e w8 ⟨rfl, hb⟩
  have hL8 : Hid (LwS w (a : Int) (b : Int) (c : Int) (e1 : Int) q (a2 : Int) (b2 : Int) (c2 : Int) (e2 : Int) q2 w8) := hL7.out.below hb
  clear hb
  clear hL7 hE1'
  obtain ⟨⟨x0, x1, x2, x3, x4⟩, xf⟩ := hL8.out.2.1.cells
  go_wp2_with fail
  refine (hU2 _).out.mono ?_
  rintro e w9 ⟨rfl, hb⟩
  have hL9 : Hid (LwS w (a : Int) (b : Int) (c : Int) (e1 : Int) q (a2 : Int) (b2 : Int) (c2 : Int) (e2 : Int) q2 w9) := hL8.out.below hb
  clear hb
  clear hL8 hU2 x0 x1 x2 x3 x4 xf
  have hE2' := hE2 w9 hL9.out.2.2
  clear hE2
  go_wp2_with fail
  refine hE2'.out.mono ?_
  rintro e w10 ⟨rfl, hb⟩
  have hL10 : Hid (LwS w (a : Int) (b : Int) (c : Int) (e1 : Int) q (a2 : Int) (b2 : Int) (c2 : Int) (e2 : Int) q2 w10) := hL9.out.below hb
  clear hb
  clear hL9 hE2'
  obtain ⟨⟨c0, c1, c2', c3, c4⟩, cf⟩ := hL10.out.1.cells
  obtain ⟨⟨x0, x1, x2, x3, x4⟩, xf⟩ := hL10.out.2.1.cells
  have hE3' := hE3 w10 hL10.out.2.2
  clear hE3
  go_wp2_with fail
  refine hE3'.out.mono ?_
  rintro e w11 ⟨rfl, hb⟩
  have hL11 : Hid (LwS w (a : Int) (b : Int) (c : Int) (e1 : Int) q (a2 : Int) (b2 : Int) (c2 : Int) (e2 : Int) q2 w11) := hL10.out.below hb
  clear hb
  clear hL10 hE3' c0 c1 c2' c3 c4 cf x0 x1 x2 x3 x4 xf
  go_wp2_with fail
  refine (hTE _).out.mono ?_
  rintro e wq ⟨rfl, hww⟩
  obtain rfl := hww.symm
  clear hww
  have hLs' := hLs w11 hL11.out.2.2
  clear hLs hTE
  go_wp2_with fail
  refine hLs'.out.mono ?_
  rintro e w12 ⟨rfl, hb⟩
  have hL12 : Hid (LwS w (a : Int) (b : Int) (c : Int) (e1 : Int) q (a2 : Int) (b2 : Int) (c2 : Int) (e2 : Int) q2 w12) := hL11.out.below hb
  clear hb
  clear hL11 hLs'
  go_wp2_with fail
  refine (hTL _).out.mono ?_
  rintro e wq ⟨rfl, hww⟩
  obtain rfl := hww.symm
  clear hww
  have hMs' := hMs w12 hL12.out.2.2
  clear hMs hTL
  go_wp2_with fail
  refine hMs'.out.mono ?_
  rintro e w13 ⟨rfl, hb⟩
  have hL13 : Hid (LwS w (a : Int) (b : Int) (c : Int) (e1 : Int) q (a2 : Int) (b2 : Int) (c2 : Int) (e2 : Int) q2 w13) := hL12.out.below hb
  clear hb
  clear hL12 hMs'
  go_wp2_with fail
  refine (hTM _).out.mono ?_
  rintro e wq ⟨rfl, hww⟩
  obtain rfl := hww.symm
  clear hww
  clear hTM
  obtain ⟨⟨c0, c1, c2', c3, c4⟩, cf⟩ := hL13.out.1.cells
  go_wp2_with fail
  refine (hU1 _).out.mono ?_
  rintro e w14 ⟨rfl, hb⟩
  have hL14 : Hid (LwS w (a : Int) (b : Int) (c : Int) (e1 : Int) q (a2 : Int) (b2 : Int) (c2 : Int) (e2 : Int) q2 w14) := hL13.out.below hb
  clear hb
  clear hL13 hU1 c0 c1 c2' c3 c4 cf
  have f1' := f1 w14 hL14.out.2.2
  clear f1
  go_wp2_with fail
  refine f1'.out.mono ?_
  rintro e w15 ⟨rfl, hb⟩
  have hL15 : Hid (LwS w (a : Int) (b : Int) (c : Int) (e1 : Int) q (a2 : Int) (b2 : Int) (c2 : Int) (e2 : Int) q2 w15) := hL14.out.below hb
  clear hb
  clear hL14 f1'
  have f2' := f2 w15 hL15.out.2.2
  clear f2
  go_wp2_with fail
  refine f2'.out.mono ?_
  rintro e w16 ⟨rfl, hb⟩
  have hL16 : Hid (LwS w (a : Int) (b : Int) (c : Int) (e1 : Int) q (a2 : Int) (b2 : Int) (c2 : Int) (e2 : Int) q2 w16) := hL15.out.below hb
  clear hb
  clear hL15 f2'
  have f3' := f3 w16 hL16.out.2.2
  clear f3
  go_wp2_with fail
  refine f3'.out.mono ?_
  rintro e w17 ⟨rfl, hb⟩
  have hL17 : Hid (LwS w (a : Int) (b : Int) (c : Int) (e1 : Int) q (a2 : Int) (b2 : Int) (c2 : Int) (e2 : Int) q2 w17) := hL16.out.below hb
  clear hb
  clear hL16 f3'
  have f4' := f4 w17 hL17.out.2.2
  clear f4
  go_wp2_with fail
  refine f4'.out.mono ?_
  rintro e w18 ⟨rfl, hb⟩
  have hL18 : Hid (LwS w (a : Int) (b : Int) (c : Int) (e1 : Int) q (a2 : Int) (b2 : Int) (c2 : Int) (e2 : Int) q2 w18) := hL17.out.below hb
  clear hb
  clear hL17 f4'
  have f5' := f5 w18 hL18.out.2.2
  clear f5
  go_wp2_with fail
  refine f5'.out.mono ?_
  rintro e w19 ⟨rfl, hb⟩
  have hL19 : Hid (LwS w (a : Int) (b : Int) (c : Int) (e1 : Int) q (a2 : Int) (b2 : Int) (c2 : Int) (e2 : Int) q2 w19) := hL18.out.below hb
  clear hb
  clear hL18 f5'
  have f6' := f6 w19 hL19.out.2.2
  clear f6
  go_wp2_with fail
  refine f6'.out.mono ?_
  rintro e w20 ⟨rfl, hb⟩
  have hL20 : Hid (LwS w (a : Int) (b : Int) (c : Int) (e1 : Int) q (a2 : Int) (b2 : Int) (c2 : Int) (e2 : Int) q2 w20) := hL19.out.below hb
  clear hb
  clear hL19 f6'
  go_wp2_with fail
  go_ret
  exact ⟨rfl, hL20.out.2.2⟩
end Tc
end Go.Proofs.YtnjodplnbfmjeaaGreatDoor
