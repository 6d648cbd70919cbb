import Derived.Test.YtkknenmpdimdbaaGreatDoorFX34
import Derived.Deep.DeepCutAuto
import Derived.Test.YtkknenmpdimdbaaGreatDoorFX28
namespace Go.Proofs.YtkknenmpdimdbaaGreatDoor
open Go.RowKit
open BerMath (Hd HR num hAt)
set_option maxHeartbeats 400000 in
theorem refHead_short (s : ByteArray) (p e : Nat) (w : World) (T G A D M L : Int) (md : Bool) (h1 : ¬ e ≤ p) (p0 : (0 : Int) ≤ (p : Int)) (p1 : (p : Int) < (s.size : Int)) (hps : p < s.size)
  (hwt : wrap64 (s[p].toNat : Int) = T) (hG : T.tmod 32 = G) (dG : (G == 31) = false) (pw : wrap64 ((p : Int) + 1) = (p : Int) + 1) (d3 : decide ((e : Int) ≤ (p : Int) + 1) = false)
  (hqs : p + 1 < s.size) (q1 : (p : Int) + 1 < (s.size : Int)) (hwl : wrap64 (s[p + 1].toNat : Int) = L) (d4 : (L == 128) = false) (d5 : decide (132 < L) = false) (d6 : decide (128 < L) = false)
  (hA : T.tdiv 64 = A) (wA : wrap64 A = A) (hD : T.tdiv 32 = D) (wD : wrap64 D = D) (hM : D.tmod 2 = M) (hmd : (M == 1) = md) :
  Calls Tryz.prog 169 #[.string s, .int .i64 (p : Int), .int .i64 (e : Int)] w fun r w' => r = .returned (.tuple #[.agg #[.int .i64 A, .bool md, .int .i64 G, .int .i64 L, .int .i64 2], .int .i64 0, .int .i64 (p : Int)]) ∧ Below w.heap.size w w' := by
 go_enter Tryz.func169, Tryz.ntmps169
 go_wp2_with fail
 refine bodyPost_ret_by (v := .tuple #[.agg #[.int .i64 A, .bool md, .int .i64 G, .int .i64 L, .int .i64 2], .int .i64 0, .int .i64 (p : Int)]) ?_ rfl ⟨rfl, ?_⟩
 ·simp [results, Tryz.results169, go_sem]
 ·repeat' first | exact Below.refl _ _ | refine Below.setCell ?_ (by simp) _ | refine Below.alloc ?_ (by simp) _ | refine Below.alloc ?_ (by simp; omega) _
set_option maxHeartbeats 400000 in
theorem refHead_cut (s : ByteArray) (p e : Nat) (w : World) (T G A D M L X Z Q : Int) (md : Bool) (h1 : ¬ e ≤ p) (p0 : (0 : Int) ≤ (p : Int)) (p1 : (p : Int) < (s.size : Int)) (hps : p < s.size)
  (hwt : wrap64 (s[p].toNat : Int) = T) (hG : T.tmod 32 = G) (dG : (G == 31) = false) (pw : wrap64 ((p : Int) + 1) = (p : Int) + 1) (d3 : decide ((e : Int) ≤ (p : Int) + 1) = false)
  (hqs : p + 1 < s.size) (q1 : (p : Int) + 1 < (s.size : Int)) (hwl : wrap64 (s[p + 1].toNat : Int) = L) (d4 : (L == 128) = false) (d5 : decide (132 < L) = false) (d6 : decide (128 < L) = true)
  (hA : T.tdiv 64 = A) (wA : wrap64 A = A) (hD : T.tdiv 32 = D) (wD : wrap64 D = D) (hM : D.tmod 2 = M) (hmd : (M == 1) = md) (hX : wrap64 (2 + L) = X) (hZ : wrap64 (X - 128) = Z) (hQ : wrap64 ((p : Int) + Z) = Q) (d7 : decide ((e : Int) < Q) = true) :
  Calls Tryz.prog 169 #[.string s, .int .i64 (p : Int), .int .i64 (e : Int)] w fun r w' => r = .returned (.tuple #[.agg hdZ.toArray, .int .i64 (-1), .int .i64 (e : Int)]) ∧ Below w.heap.size w w' := by
 go_enter Tryz.func169, Tryz.ntmps169
 go_wp2_with fail
 refine bodyPost_ret_by (v := .tuple #[.agg hdZ.toArray, .int .i64 (-1), .int .i64 (e : Int)]) ?_ rfl ⟨rfl, ?_⟩
 ·simp [results, Tryz.results169, go_sem, hdZ]
 ·repeat' first | exact Below.refl _ _ | refine Below.setCell ?_ (by simp) _ | refine Below.alloc ?_ (by simp) _ | refine Below.alloc ?_ (by simp; omega) _
theorem round_nums (v b : Nat) (hv : v < 16777216) (hb : b < 256) : wrap64 (b : Int) = (b : Int) ∧ wrap64 ((v : Int) * 256) = (v : Int) * 256 ∧ wrap64 ((v : Int) * 256 + (b : Int)) = (v : Int) * 256 + (b : Int) := by
 unfold wrap64; omega
theorem meas_down (a I : Nat) (h : I < a) (hw : wrap64 ((I : Int) + 1) = ((I + 1 : Nat) : Int)) : a - (intOf (.int .i64 (wrap64 ((I : Int) + 1)))).toNat < a - (intOf (.int .i64 (I : Int))).toNat := by
 rw [hw]
 show a - (((I + 1 : Nat) : Int)).toNat < a - ((I : Nat) : Int).toNat
 rw [Int.toNat_natCast, Int.toNat_natCast]
 omega
theorem wrap_next (a : Nat) (h : a ≤ 140737488355328) : wrap64 ((a : Int) + 1) = ((a + 1 : Nat) : Int) := by unfold wrap64; omega
theorem cast_step (x v b : Nat) (h : x = v * 256 + b) : (x : Int) = (v : Int) * 256 + (b : Int) := by omega
theorem num_step (s : ByteArray) (q j : Nat) (h : q + j < s.size) : num 0 ((s.data.toList.drop q).take (j + 1)) = num 0 ((s.data.toList.drop q).take j) * 256 + s[q + j].toNat := by
 rw [drop_snoc s q j h, BerMath.num_snoc]
theorem num_small (s : ByteArray) (q j : Nat) (hj : j < 4) : num 0 ((s.data.toList.drop q).take j) < 16777216 := by
 have h := BerMath.num_lt ((s.data.toList.drop q).take j)
 have hl : ((s.data.toList.drop q).take j).length ≤ 3 := by rw [List.length_take]; omega
 have : 256 ^ ((s.data.toList.drop q).take j).length ≤ 256 ^ 3 := Nat.pow_le_pow_right (by decide) hl
 have e : (256 : Nat) ^ 3 = 16777216 := by decide
 omega
set_option maxHeartbeats 1000000 in
theorem refHead_long (s : ByteArray) (p e : Nat) (w : World) (T G A D M L X Z Q : Int) (md : Bool) (h1 : ¬ e ≤ p) (p0 : (0 : Int) ≤ (p : Int)) (p1 : (p : Int) < (s.size : Int)) (hps : p < s.size)
  (hwt : wrap64 (s[p].toNat : Int) = T) (hG : T.tmod 32 = G) (dG : (G == 31) = false) (pw : wrap64 ((p : Int) + 1) = (p : Int) + 1) (d3 : decide ((e : Int) ≤ (p : Int) + 1) = false)
  (hqs : p + 1 < s.size) (q1 : (p : Int) + 1 < (s.size : Int)) (hwl : wrap64 (s[p + 1].toNat : Int) = L) (d4 : (L == 128) = false) (d5 : decide (132 < L) = false) (d6 : decide (128 < L) = true)
  (hA : T.tdiv 64 = A) (wA : wrap64 A = A) (hD : T.tdiv 32 = D) (wD : wrap64 D = D) (hM : D.tmod 2 = M) (hmd : (M == 1) = md) (hX : wrap64 (2 + L) = X) (hZ : wrap64 (X - 128) = Z) (hQ : wrap64 ((p : Int) + Z) = Q) (d7 : decide ((e : Int) < Q) = false)
  (k : Nat) (k4 : k ≤ 4) (hQk : Q = ((p + 2 + k : Nat) : Int)) (hks : p + 2 + k ≤ s.size) (pw2 : Hid (wrap64 ((p : Int) + 2) = ((p + 2 : Nat) : Int))) (hm : s.size ≤ 140737488355328) :
  Calls Tryz.prog 169 #[.string s, .int .i64 (p : Int), .int .i64 (e : Int)] w fun r w' => r = .returned (.tuple #[.agg #[.int .i64 A, .bool md, .int .i64 G, .int .i64 (num 0 ((s.data.toList.drop (p + 2)).take k) : Int), .int .i64 Z], .int .i64 0, .int .i64 (p : Int)]) ∧ Below w.heap.size w w' := by
 have hK : Hid (∀ j (hj : p + 2 + j < s.size), num 0 ((s.data.toList.drop (p + 2)).take (j + 1)) = num 0 ((s.data.toList.drop (p + 2)).take j) * 256 + (s[p + 2 + j]'hj).toNat) := fun j hj => num_step s (p + 2) j hj
 have hN : Hid (∀ j, j < k → num 0 ((s.data.toList.drop (p + 2)).take j) < 16777216) := fun j hj => num_small s (p + 2) j (Nat.lt_of_lt_of_le hj k4)
 have hQk' : Hid (Q = ((p + 2 + k : Nat) : Int)) := hQk
 have hks' : Hid (p + 2 + k ≤ s.size) := hks
 have k4' : Hid (k ≤ 4) := k4
 have hm' : Hid (s.size ≤ 140737488355328) := hm
 clear hQk hks k4 hm
 go_enter Tryz.func169, Tryz.ntmps169
 go_upto_region 18 with fail
 clear hwt hwl hX hZ
 replace pw2 := pw2.out
 go_wp2_with fail
 go_loopw [12] (fun iv wr => ∃ (j : Nat), j ≤ k ∧ iv = .int .i64 ((p + 2 + j : Nat) : Int) ∧ Hid (Cells wr (w.heap.size + 1) [.int .i64 A, .bool md, .int .i64 G, .int .i64 (num 0 ((s.data.toList.drop (p + 2)).take j) : Int), .int .i64 Z]) ∧ Hid (Cells wr w.heap.size hdZ) ∧ Below w.heap.size w wr ∧ w.heap.size + 1 < wr.heap.size) (fun iv _ => p + 2 + k - (intOf iv).toNat)
 case atStart =>
  refine ⟨0, Nat.zero_le _, by go_num, ?_, ?_, ?_, ?_⟩
  ·unfold Hid
   intro j hj
   have : j = 0 ∨ j = 1 ∨ j = 2 ∨ j = 3 ∨ j = 4 := by simp at hj; omega
   rcases this with rfl | rfl | rfl | rfl | rfl <;> simp [go_sem, num]
  ·unfold Hid
   intro j hj
   have : j = 0 ∨ j = 1 ∨ j = 2 ∨ j = 3 ∨ j = 4 := by simp [hdZ] at hj; omega
   rcases this with rfl | rfl | rfl | rfl | rfl <;> simp [go_sem, hdZ]
  ·repeat' first | exact Below.refl _ _ | refine Below.setCell ?_ (by simp) _ | refine Below.alloc ?_ (by simp) _ | refine Below.alloc ?_ (by simp; omega) _
  ·simp
 case round =>
  obtain ⟨j, hj, rfl, hcs, hrs, HB, hsz⟩ := hrel
  have b0 : wr.cell? ⟨w.heap.size + 1, 0, none⟩ = some (.int .i64 A) := (hcs.out 0 (by simp)).1
  have b1 : wr.cell? ⟨w.heap.size + 1, 1, none⟩ = some (.bool md) := (hcs.out 1 (by simp)).1
  have b2 : wr.cell? ⟨w.heap.size + 1, 2, none⟩ = some (.int .i64 G) := (hcs.out 2 (by simp)).1
  have b3 : wr.cell? ⟨w.heap.size + 1, 3, none⟩ = some (.int .i64 (num 0 ((s.data.toList.drop (p + 2)).take j) : Int)) := (hcs.out 3 (by simp)).1
  have b4 : wr.cell? ⟨w.heap.size + 1, 4, none⟩ = some (.int .i64 Z) := (hcs.out 4 (by simp)).1
  have z3 : wr.frozen? ⟨w.heap.size + 1, 3, none⟩ = false := (hcs.out 3 (by simp)).2
  by_cases hlt : j < k
  ·have hn := hN.out j hlt
   have hjs : p + 2 + j < s.size := Nat.lt_of_lt_of_le (Nat.add_lt_add_left hlt _) hks'.out
   have hst := hK.out j hjs
   have hIQ : p + 2 + j < p + 2 + k := Nat.add_lt_add_left hlt _
   have hnx : Hid (p + 2 + j + 1 = p + 2 + (j + 1)) := rfl
   generalize hI : p + 2 + j = I at *
   have d8 : decide ((I : Int) < Q) = true := decide_eq_true (by rw [hQk'.out]; exact Int.ofNat_lt.2 hIQ)
   have j0 : (0 : Int) ≤ (I : Int) := Int.natCast_nonneg _
   have j1 : (I : Int) < (s.size : Int) := Int.ofNat_lt.2 hjs
   have hjw : wrap64 ((I : Int) + 1) = ((I + 1 : Nat) : Int) := wrap_next _ (Nat.le_trans (Nat.le_of_lt hjs) hm'.out)
   obtain ⟨v, hv⟩ : ∃ v : Nat, num 0 ((s.data.toList.drop (p + 2)).take j) = v := ⟨_, rfl⟩
   rw [hv] at hst hn b3 hcs
   obtain ⟨hw1, hw2, hw3⟩ := round_nums v (s[I]'hjs).toNat hn (s[I]'hjs).toNat_lt
   have hcs3 := cast_step _ _ _ hst
   obtain ⟨B, hB⟩ : ∃ B : Int, ((s[I]'hjs).toNat : Int) = B := ⟨_, rfl⟩
   rw [hB] at hw1 hw3 hcs3
   obtain ⟨V, hV⟩ : ∃ V : Int, (v : Int) * 256 + B = V := ⟨_, rfl⟩
   rw [hV] at hw3 hcs3
   have hfin : Hid ((num 0 ((s.data.toList.drop (p + 2)).take (j + 1)) : Int) = V) := hcs3
   have hC : Hid (Cells (wr.setCell ⟨w.heap.size + 1, 3, none⟩ (.int .i64 V)) (w.heap.size + 1) [.int .i64 A, .bool md, .int .i64 G, .int .i64 V, .int .i64 Z]) := hcs.out.set 3 (by simp) _
   have hR : Hid (Cells (wr.setCell ⟨w.heap.size + 1, 3, none⟩ (.int .i64 V)) w.heap.size hdZ) := hrs.out.of_block (Below.heap_setCell _ _ _ _ (by simp))
   clear hcs3
   have hI' : Hid (p + 2 + j = I) := hI
   have hjw' : Hid (wrap64 ((I : Int) + 1) = ((I + 1 : Nat) : Int)) := hjw
   have hBs : Hid (Below w.heap.size w (wr.setCell ⟨w.heap.size + 1, 3, none⟩ (.int .i64 V)).drew) := by
    unfold Hid
    exact Below.drew (Below.setCell HB (Nat.le_succ _) _)
   have hss : Hid (w.heap.size + 1 < (wr.setCell ⟨w.heap.size + 1, 3, none⟩ (.int .i64 V)).drew.heap.size) := by
    unfold Hid
    show w.heap.size + 1 < (wr.setCell ⟨w.heap.size + 1, 3, none⟩ (.int .i64 V)).heap.size
    rw [World.size_setCell]
    exact hsz
   have hIQ' : Hid (I < p + 2 + k) := hIQ
   have hlt' : Hid (j < k) := hlt
   clear hst hn hcs hrs hv hK hN hI hIQ hlt
   go_wp2_with fail
   go_region
   all_goals (try go_wp2)
   go_roundw
   case rel => exact ⟨j + 1, hlt'.out, by rw [hjw'.out, hnx.out], by rw [hfin.out]; exact hC.out, hR.out, hBs.out, hss.out⟩
   case measure => exact meas_down (p + 2 + k) I hIQ'.out hjw'.out
  ·have hjk : j = k := Nat.le_antisymm hj (Nat.le_of_not_lt hlt)
   subst hjk
   have hQ2 := hQk'.out
   generalize hI : p + 2 + j = I at *
   have d8 : decide ((I : Int) < Q) = false := decide_eq_false (by rw [hQ2]; exact Int.lt_irrefl _)
   clear hQ2 hI
   have r0 : wr.cell? ⟨w.heap.size, 0, none⟩ = some (.int .i64 0) := (hrs.out 0 (by simp [hdZ])).1
   have r1 : wr.cell? ⟨w.heap.size, 1, none⟩ = some (.bool false) := (hrs.out 1 (by simp [hdZ])).1
   have r2 : wr.cell? ⟨w.heap.size, 2, none⟩ = some (.int .i64 0) := (hrs.out 2 (by simp [hdZ])).1
   have r3 : wr.cell? ⟨w.heap.size, 3, none⟩ = some (.int .i64 0) := (hrs.out 3 (by simp [hdZ])).1
   have r4 : wr.cell? ⟨w.heap.size, 4, none⟩ = some (.int .i64 0) := (hrs.out 4 (by simp [hdZ])).1
   have y0 : wr.frozen? ⟨w.heap.size, 0, none⟩ = false := (hrs.out 0 (by simp [hdZ])).2
   have y1 : wr.frozen? ⟨w.heap.size, 1, none⟩ = false := (hrs.out 1 (by simp [hdZ])).2
   have y2 : wr.frozen? ⟨w.heap.size, 2, none⟩ = false := (hrs.out 2 (by simp [hdZ])).2
   have y3 : wr.frozen? ⟨w.heap.size, 3, none⟩ = false := (hrs.out 3 (by simp [hdZ])).2
   have y4 : wr.frozen? ⟨w.heap.size, 4, none⟩ = false := (hrs.out 4 (by simp [hdZ])).2
   clear hcs hrs hK hN
   go_wp2_with fail
   refine bodyPost_ret_by (v := .tuple #[.agg #[.int .i64 A, .bool md, .int .i64 G, .int .i64 (num 0 ((s.data.toList.drop (p + 2)).take j) : Int), .int .i64 Z], .int .i64 0, .int .i64 (p : Int)]) ?_ rfl ⟨rfl, ?_⟩
   ·simp [results, Tryz.results169, go_sem, r0, r1, r2, r3, r4]
   ·refine Below.setCell (Below.setCell (Below.setCell (Below.setCell (Below.setCell HB ?_ _) ?_ _) ?_ _) ?_ _) ?_ _ <;> exact Nat.le_refl _
end Go.Proofs.YtkknenmpdimdbaaGreatDoor

namespace Go.Proofs.YtkknenmpdimdbaaGreatDoor
open Go.RowKit
open BerMath (Hd HR num hAt)
def refHV (b : List UInt8) (p e : Nat) : Value :=
 match hAt b p e with
 | .ok h => .tuple #[hdV h, .int .i64 0, .int .i64 (p : Int)]
 | .error (some (c, q)) => .tuple #[.agg hdZ.toArray, .int .i64 (c : Int), .int .i64 (q : Int)]
 | .error none => .tuple #[.agg hdZ.toArray, .int .i64 (-1), .int .i64 (e : Int)]
theorem w_nat (n : Nat) (h : n < 256) : wrap64 (n : Int) = (n : Int) := by unfold wrap64; omega
theorem w_p1 (p : Nat) (h : p ≤ 140737488355328) : wrap64 ((p : Int) + 1) = (p : Int) + 1 := by unfold wrap64; omega
theorem w_p2 (p : Nat) (h : p ≤ 140737488355328) : Hid (wrap64 ((p : Int) + 2) = ((p + 2 : Nat) : Int)) := by unfold Hid wrap64; omega
theorem w_X (l : Nat) (h : l < 256) : wrap64 (2 + (l : Int)) = 2 + (l : Int) := by unfold wrap64; omega
theorem w_Z (l k : Nat) (h : l = 128 + k) (h2 : l < 256) : wrap64 (2 + (l : Int) - 128) = ((k + 2 : Nat) : Int) := by unfold wrap64; omega
theorem w_Q (p k : Nat) (h : p ≤ 140737488355328) (h2 : k ≤ 4) : wrap64 ((p : Int) + ((k + 2 : Nat) : Int)) = ((p + 2 + k : Nat) : Int) := by unfold wrap64; omega
set_option maxRecDepth 100000 in
set_option maxHeartbeats 1000000 in
theorem refHeadAt_any (s : ByteArray) (p e : Nat) (w : World) (he : e ≤ s.size) (hm : s.size ≤ 140737488355328) (hp : p ≤ e) :
  Calls Tryz.prog 169 #[.string s, .int .i64 (p : Int), .int .i64 (e : Int)] w fun r w' => r = .returned (refHV s.data.toList p e) ∧ Below w.heap.size w w' := by
 have p0 : (0 : Int) ≤ (p : Int) := by omega
 have pm : (p : Int) ≤ 140737488355328 := by omega
 by_cases h1 : e ≤ p
 ·have hr : refHV s.data.toList p e = .tuple #[.agg hdZ.toArray, .int .i64 (-1), .int .i64 (e : Int)] := by unfold refHV hAt; rw [if_pos h1]
  rw [hr]
  clear hr hp he hm
  go_enter Tryz.func169, Tryz.ntmps169
  go_wp2_with fail
  refine bodyPost_ret_by (v := .tuple #[.agg hdZ.toArray, .int .i64 (-1), .int .i64 (e : Int)]) ?_ rfl ⟨rfl, ?_⟩
  ·simp [results, Tryz.results169, go_sem, hdZ]
  ·repeat' first | exact Below.refl _ _ | refine Below.setCell ?_ (by simp) _ | refine Below.alloc ?_ (by simp) _ | refine Below.alloc ?_ (by simp; omega) _
 have hps : p < s.size := by omega
 have g0 : Hid (s.data.toList.getD p 0 = s[p]) := getD_s s p hps
 have p1 : (p : Int) < (s.size : Int) := by omega
 obtain ⟨t, ht⟩ : ∃ t, Hid (s[p].toNat = t) := ⟨_, by unfold Hid; rfl⟩
 have ht256 : t < 256 := by rw [← ht.out]; exact s[p].toNat_lt
 have hwt : Hid (wrap64 (s[p].toNat : Int) = (t : Int)) := by unfold Hid; rw [ht.out]; unfold wrap64; omega
 have t0 : (0 : Int) ≤ (t : Int) := by omega
 have t1 : (t : Int) < 256 := by omega
 have ht32 : (t : Int).tmod 32 = ((t % 32 : Nat) : Int) := by rw [Int.tmod_eq_emod_of_nonneg t0]; omega
 by_cases h2 : t % 32 = 31
 ·have hr : refHV s.data.toList p e = .tuple #[.agg hdZ.toArray, .int .i64 21, .int .i64 (p : Int)] := by unfold refHV hAt; rw [if_neg h1, g0.out, ht.out, if_pos h2]; rfl
  rw [hr]
  have d2 : (((t % 32 : Nat) : Int) == 31) = true := by rw [beq_iff_eq]; omega
  clear hr hp he hm h2 ht
  replace hwt := hwt.out
  go_enter Tryz.func169, Tryz.ntmps169
  go_wp2_with fail
  refine bodyPost_ret_by (v := .tuple #[.agg hdZ.toArray, .int .i64 21, .int .i64 (p : Int)]) ?_ rfl ⟨rfl, ?_⟩
  ·simp [results, Tryz.results169, go_sem, hdZ]
  ·repeat' first | exact Below.refl _ _ | refine Below.setCell ?_ (by simp) _ | refine Below.alloc ?_ (by simp) _ | refine Below.alloc ?_ (by simp; omega) _
 have d2 : (((t % 32 : Nat) : Int) == 31) = false := by rw [beq_eq_false_iff_ne]; omega
 by_cases h3 : e ≤ p + 1
 ·have hr : refHV s.data.toList p e = .tuple #[.agg hdZ.toArray, .int .i64 (-1), .int .i64 (e : Int)] := by unfold refHV hAt; rw [if_neg h1, g0.out, ht.out, if_neg h2, if_pos h3]
  rw [hr]
  have d3 : decide ((e : Int) ≤ (p : Int) + 1) = true := decide_eq_true (by omega)
  clear hr hp he hm h2 h3 ht
  replace hwt := hwt.out
  go_enter Tryz.func169, Tryz.ntmps169
  go_wp2_with fail
  refine bodyPost_ret_by (v := .tuple #[.agg hdZ.toArray, .int .i64 (-1), .int .i64 (e : Int)]) ?_ rfl ⟨rfl, ?_⟩
  ·simp [results, Tryz.results169, go_sem, hdZ]
  ·repeat' first | exact Below.refl _ _ | refine Below.setCell ?_ (by simp) _ | refine Below.alloc ?_ (by simp) _ | refine Below.alloc ?_ (by simp; omega) _
 have d3 : decide ((e : Int) ≤ (p : Int) + 1) = false := decide_eq_false (by omega)
 have hqs : p + 1 < s.size := by omega
 have g1 : Hid (s.data.toList.getD (p + 1) 0 = s[p + 1]) := getD_s s (p + 1) hqs
 have q1 : (p : Int) + 1 < (s.size : Int) := by omega
 have pp1 : ((p + 1 : Nat) : Int) = (p : Int) + 1 := by omega
 obtain ⟨l, hl⟩ : ∃ l, Hid (s[p + 1].toNat = l) := ⟨_, by unfold Hid; rfl⟩
 have hl256 : l < 256 := by rw [← hl.out]; exact s[p + 1].toNat_lt
 have hwl : Hid (wrap64 (s[p + 1].toNat : Int) = (l : Int)) := by unfold Hid; rw [hl.out]; unfold wrap64; omega
 have l0 : (0 : Int) ≤ (l : Int) := by omega
 have l1 : (l : Int) < 256 := by omega
 by_cases h4 : l = 128
 ·have hr : refHV s.data.toList p e = .tuple #[.agg hdZ.toArray, .int .i64 ((22 : Nat) : Int), .int .i64 ((p + 1 : Nat) : Int)] := by unfold refHV hAt; rw [if_neg h1, g0.out, ht.out, if_neg h2, if_neg h3, g1.out, hl.out, if_pos h4]
  rw [hr, pp1]
  have d4 : ((l : Int) == 128) = true := by rw [beq_iff_eq]; omega
  clear hr hp he hm h2 h3 h4 ht hl
  replace hwt := hwt.out
  replace hwl := hwl.out
  go_enter Tryz.func169, Tryz.ntmps169
  go_wp2_with fail
  refine bodyPost_ret_by (v := .tuple #[.agg hdZ.toArray, .int .i64 ((22 : Nat) : Int), .int .i64 ((p : Int) + 1)]) ?_ rfl ⟨rfl, ?_⟩
  ·simp [results, Tryz.results169, go_sem, hdZ]
  ·repeat' first | exact Below.refl _ _ | refine Below.setCell ?_ (by simp) _ | refine Below.alloc ?_ (by simp) _ | refine Below.alloc ?_ (by simp; omega) _
 have d4 : ((l : Int) == 128) = false := by rw [beq_eq_false_iff_ne]; omega
 by_cases h5 : 132 < l
 ·have hr : refHV s.data.toList p e = .tuple #[.agg hdZ.toArray, .int .i64 ((23 : Nat) : Int), .int .i64 ((p + 1 : Nat) : Int)] := by unfold refHV hAt; rw [if_neg h1, g0.out, ht.out, if_neg h2, if_neg h3, g1.out, hl.out, if_neg h4, if_pos h5]
  rw [hr, pp1]
  have d5 : decide ((132 : Int) < (l : Int)) = true := decide_eq_true (by omega)
  clear hr hp he hm h2 h3 h4 h5 ht hl
  replace hwt := hwt.out
  replace hwl := hwl.out
  go_enter Tryz.func169, Tryz.ntmps169
  go_wp2_with fail
  refine bodyPost_ret_by (v := .tuple #[.agg hdZ.toArray, .int .i64 ((23 : Nat) : Int), .int .i64 ((p : Int) + 1)]) ?_ rfl ⟨rfl, ?_⟩
  ·simp [results, Tryz.results169, go_sem, hdZ]
  ·repeat' first | exact Below.refl _ _ | refine Below.setCell ?_ (by simp) _ | refine Below.alloc ?_ (by simp) _ | refine Below.alloc ?_ (by simp; omega) _
 have d5 : decide ((132 : Int) < (l : Int)) = false := decide_eq_false (by omega)
 have ht64 : (t : Int).tdiv 64 = ((t / 64 : Nat) : Int) := by rw [Int.tdiv_eq_ediv_of_nonneg t0]; omega
 have htd : (t : Int).tdiv 32 = ((t / 32 : Nat) : Int) := by rw [Int.tdiv_eq_ediv_of_nonneg t0]; omega
 have htm : ((t / 32 : Nat) : Int).tmod 2 = ((t / 32 % 2 : Nat) : Int) := by rw [Int.tmod_eq_emod_of_nonneg (by omega)]; omega
 obtain ⟨md, hmd⟩ : ∃ md : Bool, (((t / 32 % 2 : Nat) : Int) == 1) = md := ⟨_, rfl⟩
 have hmd' : Hid (decide (t / 32 % 2 = 1) = md) := by
  unfold Hid
  rw [← hmd]
  rcases Nat.mod_two_eq_zero_or_one (t / 32) with h | h <;> rw [h] <;> rfl
 have hpm : p ≤ 140737488355328 := by omega
 have ht6 : t / 64 < 256 := by omega
 have ht3 : t / 32 < 256 := by omega
 by_cases h6 : l < 128
 ·have hr : refHV s.data.toList p e = .tuple #[.agg #[.int .i64 ((t / 64 : Nat) : Int), .bool md, .int .i64 ((t % 32 : Nat) : Int), .int .i64 (l : Int), .int .i64 2], .int .i64 0, .int .i64 (p : Int)] := by
   unfold refHV hAt; rw [if_neg h1, g0.out, ht.out, if_neg h2, if_neg h3, g1.out, hl.out, if_neg h4, if_neg h5, if_pos h6, hmd'.out]; rfl
  rw [hr]
  have d6 : decide ((128 : Int) < (l : Int)) = false := decide_eq_false (by omega)
  exact refHead_short s p e w _ _ _ _ _ _ md h1 p0 p1 hps hwt.out ht32 d2 (w_p1 p hpm) d3 hqs q1 hwl.out d4 d5 d6 ht64 (w_nat _ ht6) htd (w_nat _ ht3) htm hmd
 have d6 : decide ((128 : Int) < (l : Int)) = true := decide_eq_true (by omega)
 obtain ⟨k, hk⟩ : ∃ k, l = 128 + k := ⟨l - 128, by omega⟩
 have e1 : l - 126 = k + 2 := by omega
 have e2 : l - 128 = k := by omega
 have hk4 : k ≤ 4 := by omega
 have hks : p + (k + 2) ≤ e → p + 2 + k ≤ s.size := by omega
 have d7 : e < p + (k + 2) → decide ((e : Int) < ((p + 2 + k : Nat) : Int)) = true := fun h => decide_eq_true (by omega)
 have d7' : p + (k + 2) ≤ e → decide ((e : Int) < ((p + 2 + k : Nat) : Int)) = false := fun h => decide_eq_false (by omega)
 by_cases h7 : e < p + (k + 2)
 ·have hr : refHV s.data.toList p e = .tuple #[.agg hdZ.toArray, .int .i64 (-1), .int .i64 (e : Int)] := by
   unfold refHV hAt; rw [if_neg h1, g0.out, ht.out, if_neg h2, if_neg h3, g1.out, hl.out, if_neg h4, if_neg h5, if_neg h6, e1, if_pos h7]
  rw [hr]
  exact refHead_cut s p e w _ _ _ _ _ _ _ _ _ md h1 p0 p1 hps hwt.out ht32 d2 (w_p1 p hpm) d3 hqs q1 hwl.out d4 d5 d6 ht64 (w_nat _ ht6) htd (w_nat _ ht3) htm hmd (w_X l hl256) (w_Z l k hk hl256) (w_Q p k hpm hk4) (d7 h7)
 ·have hr : refHV s.data.toList p e = .tuple #[.agg #[.int .i64 ((t / 64 : Nat) : Int), .bool md, .int .i64 ((t % 32 : Nat) : Int), .int .i64 (num 0 ((s.data.toList.drop (p + 2)).take k) : Int), .int .i64 ((k + 2 : Nat) : Int)], .int .i64 0, .int .i64 (p : Int)] := by
   unfold refHV hAt; rw [if_neg h1, g0.out, ht.out, if_neg h2, if_neg h3, g1.out, hl.out, if_neg h4, if_neg h5, if_neg h6, e1, if_neg h7, e2, hmd'.out]; rfl
  rw [hr]
  exact refHead_long s p e w _ _ _ _ _ _ _ _ _ md h1 p0 p1 hps hwt.out ht32 d2 (w_p1 p hpm) d3 hqs q1 hwl.out d4 d5 d6 ht64 (w_nat _ ht6) htd (w_nat _ ht3) htm hmd (w_X l hl256) (w_Z l k hk hl256) (w_Q p k hpm hk4) (d7' (Nat.le_of_not_lt h7)) k hk4 rfl (hks (Nat.le_of_not_lt h7)) (w_p2 p hpm) hm
end Go.Proofs.YtkknenmpdimdbaaGreatDoor

namespace Go.Proofs.YtkknenmpdimdbaaGreatDoor
open Go.RowKit
open BerMath (Hd HR num hAt wAt)
def refWV (b : List UInt8) (p e : Nat) : Value :=
 match wAt b p e with
 | .ok h => .tuple #[hdV h, .int .i64 0, .int .i64 (p : Int)]
 | .error (some (c, q)) => .tuple #[.agg hdZ.toArray, .int .i64 (c : Int), .int .i64 (q : Int)]
 | .error none => .tuple #[.agg hdZ.toArray, .int .i64 (-1), .int .i64 (e : Int)]
theorem hAt_er (b : List UInt8) (p e c q : Nat) (h : hAt b p e = HR.er c q) : c = 21 ∨ c = 22 ∨ c = 23 := by
 unfold hAt at h
 split at h
 ·cases h
 split at h
 ·have h1 := (BerMath.er_inj h).1; omega
 split at h
 ·cases h
 split at h
 ·have h1 := (BerMath.er_inj h).1; omega
 split at h
 ·have h1 := (BerMath.er_inj h).1; omega
 split at h
 ·cases h
 split at h
 ·cases h
 ·cases h
theorem refW_cases (b : List UInt8) (p e : Nat) :
  (∃ (c q : Int), (c == 0) = false ∧ refHV b p e = .tuple #[.agg #[.int .i64 0, .bool false, .int .i64 0, .int .i64 0, .int .i64 0], .int .i64 c, .int .i64 q] ∧ refWV b p e = .tuple #[.agg #[.int .i64 0, .bool false, .int .i64 0, .int .i64 0, .int .i64 0], .int .i64 c, .int .i64 q]) ∨
  (∃ h, hAt b p e = .ok h ∧ refHV b p e = .tuple #[hdV h, .int .i64 0, .int .i64 (p : Int)] ∧ e < p + h.size + h.len ∧ refWV b p e = .tuple #[.agg #[.int .i64 0, .bool false, .int .i64 0, .int .i64 0, .int .i64 0], .int .i64 (-1), .int .i64 (e : Int)]) ∨
  (∃ h, hAt b p e = .ok h ∧ refHV b p e = .tuple #[hdV h, .int .i64 0, .int .i64 (p : Int)] ∧ ¬ e < p + h.size + h.len ∧ refWV b p e = .tuple #[hdV h, .int .i64 0, .int .i64 (p : Int)]) := by
 unfold refHV refWV wAt
 cases hh : hAt b p e with
 | ok h =>
  by_cases h1 : e < p + (h.size + h.len)
  ·refine Or.inr (Or.inl ⟨h, rfl, rfl, by omega, ?_⟩)
   simp only [if_pos h1]; rfl
  ·refine Or.inr (Or.inr ⟨h, rfl, rfl, by omega, ?_⟩)
   simp only [if_neg h1]
 | error o =>
  cases o with
  | some cq =>
   obtain ⟨c, q⟩ := cq
   have hc := hAt_er _ _ _ _ _ hh
   exact Or.inl ⟨(c : Int), (q : Int), by rw [beq_eq_false_iff_ne]; omega, rfl, rfl⟩
  | none => exact Or.inl ⟨-1, (e : Int), rfl, rfl, rfl⟩
theorem w_pq (p x : Nat) (hp : p ≤ 140737488355328) (hx : x ≤ 6) : wrap64 ((p : Int) + (x : Int)) = ((p + x : Nat) : Int) := by unfold wrap64; omega
theorem w_pqr (p x y : Nat) (hp : p ≤ 140737488355328) (hx : x ≤ 6) (hy : y < 4294967296) : wrap64 (((p + x : Nat) : Int) + (y : Int)) = ((p + x + y : Nat) : Int) := by unfold wrap64; omega
set_option maxHeartbeats 1000000 in
theorem refWhole_any (s : ByteArray) (p e : Nat) (w : World) (he : e ≤ s.size) (hm : s.size ≤ 140737488355328) (hp : p ≤ e) :
  Calls Tryz.prog 162 #[.string s, .int .i64 (p : Int), .int .i64 (e : Int)] w fun r w' => r = .returned (refWV s.data.toList p e) ∧ Below w.heap.size w w' := by
 have hH : ∀ W, Hid (Calls Tryz.prog 169 #[.string s, .int .i64 (p : Int), .int .i64 (e : Int)] W fun r w' => r = .returned (refHV s.data.toList p e) ∧ Below W.heap.size W w') := fun W => refHeadAt_any s p e W he hm hp
 have hpm : p ≤ 140737488355328 := Nat.le_trans hp (Nat.le_trans he hm)
 have hz : ∀ w', Below (w.heap.size + 1) (w.alloc (.cells #[.int .i64 0, .bool false, .int .i64 0, .int .i64 0, .int .i64 0] 205)) w' → Cells w' w.heap.size hdZ := fun w' hb => by
  have h0 : Cells (w.alloc (.cells #[.int .i64 0, .bool false, .int .i64 0, .int .i64 0, .int .i64 0] 205)) w.heap.size hdZ := by
   intro j hj
   have : j = 0 ∨ j = 1 ∨ j = 2 ∨ j = 3 ∨ j = 4 := by simp [hdZ] at hj; omega
   rcases this with rfl | rfl | rfl | rfl | rfl <;> simp [go_sem, hdZ]
  exact h0.of_block (hb.block _ (Nat.lt_succ_self _))
 have key : ∀ (l0 : Int) (l1 : Bool) (l2 l3 l4 c q : Int) (dd : Bool) (A E : Int) (m0 : Int) (m1 : Bool) (m2 m3 m4 c' q' : Int),
   refHV s.data.toList p e = .tuple #[.agg #[.int .i64 l0, .bool l1, .int .i64 l2, .int .i64 l3, .int .i64 l4], .int .i64 c, .int .i64 q] →
   ((c == 0) = false ∧ m0 = l0 ∧ m1 = l1 ∧ m2 = l2 ∧ m3 = l3 ∧ m4 = l4 ∧ c' = c ∧ q' = q ∨ c = 0 ∧ wrap64 ((p : Int) + l4) = A ∧ wrap64 (A + l3) = E ∧ decide ((e : Int) < E) = dd ∧ (dd = true ∧ m0 = 0 ∧ m1 = false ∧ m2 = 0 ∧ m3 = 0 ∧ m4 = 0 ∧ c' = -1 ∧ q' = (e : Int) ∨ dd = false ∧ m0 = l0 ∧ m1 = l1 ∧ m2 = l2 ∧ m3 = l3 ∧ m4 = l4 ∧ c' = c ∧ q' = q)) →
   Calls Tryz.prog 162 #[.string s, .int .i64 (p : Int), .int .i64 (e : Int)] w fun r w' => r = .returned (.tuple #[.agg #[.int .i64 m0, .bool m1, .int .i64 m2, .int .i64 m3, .int .i64 m4], .int .i64 c', .int .i64 q']) ∧ Below w.heap.size w w' := by
  intro l0 l1 l2 l3 l4 c q dd A E m0 m1 m2 m3 m4 c' q' hv hc
  rw [hv] at hH
  clear hv he hm hp hpm
  rcases hc with ⟨hc0, rfl, rfl, rfl, rfl, rfl, rfl, rfl⟩ | ⟨rfl, hA, hE, hd, ⟨rfl, rfl, rfl, rfl, rfl, rfl, rfl, rfl⟩ | ⟨rfl, rfl, rfl, rfl, rfl, rfl, rfl, rfl⟩⟩
  all_goals
   go_enter Tryz.func162, Tryz.ntmps162
   go_wp2_with fail
   refine (hH _).out.mono ?_
   rintro r w1 ⟨rfl, hb⟩
   have hb' : Below (w.heap.size + 1) (w.alloc (.cells #[.int .i64 0, .bool false, .int .i64 0, .int .i64 0, .int .i64 0] 205)) w1 := by simpa using hb
   have hrb := hz w1 hb'
   have r0 : w1.cell? ⟨w.heap.size, 0, none⟩ = some (.int .i64 0) := (hrb 0 (by simp [hdZ])).1
   have r1 : w1.cell? ⟨w.heap.size, 1, none⟩ = some (.bool false) := (hrb 1 (by simp [hdZ])).1
   have r2 : w1.cell? ⟨w.heap.size, 2, none⟩ = some (.int .i64 0) := (hrb 2 (by simp [hdZ])).1
   have r3 : w1.cell? ⟨w.heap.size, 3, none⟩ = some (.int .i64 0) := (hrb 3 (by simp [hdZ])).1
   have r4 : w1.cell? ⟨w.heap.size, 4, none⟩ = some (.int .i64 0) := (hrb 4 (by simp [hdZ])).1
   have z0 : w1.frozen? ⟨w.heap.size, 0, none⟩ = false := (hrb 0 (by simp [hdZ])).2
   have z1 : w1.frozen? ⟨w.heap.size, 1, none⟩ = false := (hrb 1 (by simp [hdZ])).2
   have z2 : w1.frozen? ⟨w.heap.size, 2, none⟩ = false := (hrb 2 (by simp [hdZ])).2
   have z3 : w1.frozen? ⟨w.heap.size, 3, none⟩ = false := (hrb 3 (by simp [hdZ])).2
   have z4 : w1.frozen? ⟨w.heap.size, 4, none⟩ = false := (hrb 4 (by simp [hdZ])).2
   have n1 : w.heap.size < w1.heap.size := by have := hb'.size; simp at this; omega
   have HB : Below w.heap.size w w1 := ((Below.refl _ _).alloc (Nat.le_refl _) _).trans (hb'.mono (Nat.le_succ _))
   clear hrb hb hb' hH hz
   go_wp2_with fail
   refine bodyPost_ret_by (by
    simp [results, Tryz.results162, go_sem, r0, r1, r2, r3, r4, n1]) rfl ⟨rfl, ?_⟩
   refine Below.alloc (Below.setCell (Below.setCell (Below.setCell (Below.setCell (Below.setCell HB ?_ _) ?_ _) ?_ _) ?_ _) ?_ _) (by simp only [World.size_setCell]; exact Nat.le_of_lt n1) _
   all_goals exact Nat.le_refl _
 rcases refW_cases s.data.toList p e with ⟨c, q, h1, h2, h3⟩ | ⟨h, h0, h2, h4, h3⟩ | ⟨h, h0, h2, h4, h3⟩
 ·rw [h3]
  exact key _ _ _ _ _ c q false 0 0 _ _ _ _ _ _ _ h2 (Or.inl ⟨h1, rfl, rfl, rfl, rfl, rfl, rfl, rfl⟩)
 ·rw [h3]
  obtain ⟨k1, k2, k3, _⟩ := BerMath.hAt_ok _ _ _ _ h0
  exact key _ _ _ _ _ 0 (p : Int) true _ _ _ _ _ _ _ _ _ h2 (Or.inr ⟨rfl, w_pq p h.size hpm k2, w_pqr p h.size h.len hpm k2 k3, decide_eq_true (by omega), Or.inl ⟨rfl, rfl, rfl, rfl, rfl, rfl, rfl, rfl⟩⟩)
 ·rw [h3]
  obtain ⟨k1, k2, k3, _⟩ := BerMath.hAt_ok _ _ _ _ h0
  exact key _ _ _ _ _ 0 (p : Int) false _ _ _ _ _ _ _ _ _ h2 (Or.inr ⟨rfl, w_pq p h.size hpm k2, w_pqr p h.size h.len hpm k2 k3, decide_eq_false (by omega), Or.inr ⟨rfl, rfl, rfl, rfl, rfl, rfl, rfl, rfl⟩⟩)
end Go.Proofs.YtkknenmpdimdbaaGreatDoor
