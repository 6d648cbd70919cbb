import Derived.Test.YtkiidlnimjjnlaaDoorBHead4
import Derived.Deep.DeepCutAuto
namespace Go.Proofs.YtkiidlnimjjnlaaDoor
open Go.RowKit
open BerMath (Hd HR num hAt)

set_option maxHeartbeats 400000 in
theorem refHead_short (s : ByteArray) (p e : Nat) (w : World) (T G A D M L : Int) (md : Bool) (h1 : ¬ e ≤ p) (p0 : (0 : Int) ≤ (p : Int)) (p1 : (p : Int) < (s.size : Int)) (hps : p < s.size)
    (hwt : wrap64 (s[p].toNat : Int) = T) (hG : T.tmod 32 = G) (dG : (G == 31) = false) (pw : wrap64 ((p : Int) + 1) = (p : Int) + 1) (d3 : decide ((e : Int) ≤ (p : Int) + 1) = false)
    (hqs : p + 1 < s.size) (q1 : (p : Int) + 1 < (s.size : Int)) (hwl : wrap64 (s[p + 1].toNat : Int) = L) (d4 : (L == 128) = false) (d5 : decide (132 < L) = false) (d6 : decide (128 < L) = false)
    (hA : T.tdiv 64 = A) (wA : wrap64 A = A) (hD : T.tdiv 32 = D) (wD : wrap64 D = D) (hM : D.tmod 2 = M) (hmd : (M == 1) = md) :
    Calls Tryd.prog 66 #[.string s, .int .i64 (p : Int), .int .i64 (e : Int)] w fun r w' => r = .returned (.tuple #[.agg #[.int .i64 A, .bool md, .int .i64 G, .int .i64 L, .int .i64 2], .int .i64 0, .int .i64 (p : Int)]) ∧ Below w.heap.size w w' := by
  go_enter Tryd.func66, Tryd.ntmps66
  go_wp2_with fail
  refine bodyPost_ret_by (v := .tuple #[.agg #[.int .i64 A, .bool md, .int .i64 G, .int .i64 L, .int .i64 2], .int .i64 0, .int .i64 (p : Int)]) ?_ rfl ⟨rfl, ?_⟩
  · simp [results, Tryd.results66, go_sem]
  · repeat' first | exact Below.refl _ _ | refine Below.setCell ?_ (by simp) _ | refine Below.alloc ?_ (by simp) _ | refine Below.alloc ?_ (by simp; omega) _

set_option maxHeartbeats 400000 in
theorem refHead_cut (s : ByteArray) (p e : Nat) (w : World) (T G A D M L X Z Q : Int) (md : Bool) (h1 : ¬ e ≤ p) (p0 : (0 : Int) ≤ (p : Int)) (p1 : (p : Int) < (s.size : Int)) (hps : p < s.size)
    (hwt : wrap64 (s[p].toNat : Int) = T) (hG : T.tmod 32 = G) (dG : (G == 31) = false) (pw : wrap64 ((p : Int) + 1) = (p : Int) + 1) (d3 : decide ((e : Int) ≤ (p : Int) + 1) = false)
    (hqs : p + 1 < s.size) (q1 : (p : Int) + 1 < (s.size : Int)) (hwl : wrap64 (s[p + 1].toNat : Int) = L) (d4 : (L == 128) = false) (d5 : decide (132 < L) = false) (d6 : decide (128 < L) = true)
    (hA : T.tdiv 64 = A) (wA : wrap64 A = A) (hD : T.tdiv 32 = D) (wD : wrap64 D = D) (hM : D.tmod 2 = M) (hmd : (M == 1) = md) (hX : wrap64 (2 + L) = X) (hZ : wrap64 (X - 128) = Z) (hQ : wrap64 ((p : Int) + Z) = Q) (d7 : decide ((e : Int) < Q) = true) :
    Calls Tryd.prog 66 #[.string s, .int .i64 (p : Int), .int .i64 (e : Int)] w fun r w' => r = .returned (.tuple #[.agg hdZ.toArray, .int .i64 (-1), .int .i64 (e : Int)]) ∧ Below w.heap.size w w' := by
  go_enter Tryd.func66, Tryd.ntmps66
  go_wp2_with fail
  refine bodyPost_ret_by (v := .tuple #[.agg hdZ.toArray, .int .i64 (-1), .int .i64 (e : Int)]) ?_ rfl ⟨rfl, ?_⟩
  · simp [results, Tryd.results66, go_sem, hdZ]
  · repeat' first | exact Below.refl _ _ | refine Below.setCell ?_ (by simp) _ | refine Below.alloc ?_ (by simp) _ | refine Below.alloc ?_ (by simp; omega) _

theorem round_nums (v b : Nat) (hv : v < 16777216) (hb : b < 256) : wrap64 (b : Int) = (b : Int) ∧ wrap64 ((v : Int) * 256) = (v : Int) * 256 ∧ wrap64 ((v : Int) * 256 + (b : Int)) = (v : Int) * 256 + (b : Int) := by
  unfold wrap64; omega
theorem meas_down (a I : Nat) (h : I < a) (hw : wrap64 ((I : Int) + 1) = ((I + 1 : Nat) : Int)) : a - (intOf (.int .i64 (wrap64 ((I : Int) + 1)))).toNat < a - (intOf (.int .i64 (I : Int))).toNat := by
  rw [hw]
  show a - (((I + 1 : Nat) : Int)).toNat < a - ((I : Nat) : Int).toNat
  rw [Int.toNat_natCast, Int.toNat_natCast]
  omega
theorem wrap_next (a : Nat) (h : a ≤ 140737488355328) : wrap64 ((a : Int) + 1) = ((a + 1 : Nat) : Int) := by unfold wrap64; omega
theorem cast_step (x v b : Nat) (h : x = v * 256 + b) : (x : Int) = (v : Int) * 256 + (b : Int) := by omega
theorem num_step (s : ByteArray) (q j : Nat) (h : q + j < s.size) : num 0 ((s.data.toList.drop q).take (j + 1)) = num 0 ((s.data.toList.drop q).take j) * 256 + s[q + j].toNat := by
  rw [drop_snoc s q j h, BerMath.num_snoc]
theorem num_small (s : ByteArray) (q j : Nat) (hj : j < 4) : num 0 ((s.data.toList.drop q).take j) < 16777216 := by
  have h := BerMath.num_lt ((s.data.toList.drop q).take j)
  have hl : ((s.data.toList.drop q).take j).length ≤ 3 := by rw [List.length_take]; omega
  have : 256 ^ ((s.data.toList.drop q).take j).length ≤ 256 ^ 3 := Nat.pow_le_pow_right (by decide) hl
  have e : (256 : Nat) ^ 3 = 16777216 := by decide
  omega

set_option maxHeartbeats 1000000 in
theorem refHead_long (s : ByteArray) (p e : Nat) (w : World) (T G A D M L X Z Q : Int) (md : Bool) (h1 : ¬ e ≤ p) (p0 : (0 : Int) ≤ (p : Int)) (p1 : (p : Int) < (s.size : Int)) (hps : p < s.size)
    (hwt : wrap64 (s[p].toNat : Int) = T) (hG : T.tmod 32 = G) (dG : (G == 31) = false) (pw : wrap64 ((p : Int) + 1) = (p : Int) + 1) (d3 : decide ((e : Int) ≤ (p : Int) + 1) = false)
    (hqs : p + 1 < s.size) (q1 : (p : Int) + 1 < (s.size : Int)) (hwl : wrap64 (s[p + 1].toNat : Int) = L) (d4 : (L == 128) = false) (d5 : decide (132 < L) = false) (d6 : decide (128 < L) = true)
    (hA : T.tdiv 64 = A) (wA : wrap64 A = A) (hD : T.tdiv 32 = D) (wD : wrap64 D = D) (hM : D.tmod 2 = M) (hmd : (M == 1) = md) (hX : wrap64 (2 + L) = X) (hZ : wrap64 (X - 128) = Z) (hQ : wrap64 ((p : Int) + Z) = Q) (d7 : decide ((e : Int) < Q) = false)
    (k : Nat) (k4 : k ≤ 4) (hQk : Q = ((p + 2 + k : Nat) : Int)) (hks : p + 2 + k ≤ s.size) (pw2 : Hid (wrap64 ((p : Int) + 2) = ((p + 2 : Nat) : Int))) (hm : s.size ≤ 140737488355328) :
    Calls Tryd.prog 66 #[.string s, .int .i64 (p : Int), .int .i64 (e : Int)] w fun r w' => r = .returned (.tuple #[.agg #[.int .i64 A, .bool md, .int .i64 G, .int .i64 (num 0 ((s.data.toList.drop (p + 2)).take k) : Int), .int .i64 Z], .int .i64 0, .int .i64 (p : Int)]) ∧ Below w.heap.size w w' := by
  have hK : Hid (∀ j (hj : p + 2 + j < s.size), num 0 ((s.data.toList.drop (p + 2)).take (j + 1)) = num 0 ((s.data.toList.drop (p + 2)).take j) * 256 + (s[p + 2 + j]'hj).toNat) := fun j hj => num_step s (p + 2) j hj
  have hN : Hid (∀ j, j < k → num 0 ((s.data.toList.drop (p + 2)).take j) < 16777216) := fun j hj => num_small s (p + 2) j (Nat.lt_of_lt_of_le hj k4)
  have hQk' : Hid (Q = ((p + 2 + k : Nat) : Int)) := hQk
  have hks' : Hid (p + 2 + k ≤ s.size) := hks
  have k4' : Hid (k ≤ 4) := k4
  have hm' : Hid (s.size ≤ 140737488355328) := hm
  clear hQk hks k4 hm
  go_enter Tryd.func66, Tryd.ntmps66
  go_upto_region 18 with fail
  clear hwt hwl hX hZ
  replace pw2 := pw2.out
  go_wp2_with fail
  go_loopw [12] (fun iv wr => ∃ (j : Nat), j ≤ k ∧ iv = .int .i64 ((p + 2 + j : Nat) : Int) ∧ Hid (Cells wr (w.heap.size + 1) [.int .i64 A, .bool md, .int .i64 G, .int .i64 (num 0 ((s.data.toList.drop (p + 2)).take j) : Int), .int .i64 Z]) ∧ Hid (Cells wr w.heap.size hdZ) ∧ Below w.heap.size w wr ∧ w.heap.size + 1 < wr.heap.size) (fun iv _ => p + 2 + k - (intOf iv).toNat)
  case atStart =>
    refine ⟨0, Nat.zero_le _, by go_num, ?_, ?_, ?_, ?_⟩
    · unfold Hid
      intro j hj
      have : j = 0 ∨ j = 1 ∨ j = 2 ∨ j = 3 ∨ j = 4 := by simp at hj; omega
      rcases this with rfl | rfl | rfl | rfl | rfl <;> simp [go_sem, num]
    · unfold Hid
      intro j hj
      have : j = 0 ∨ j = 1 ∨ j = 2 ∨ j = 3 ∨ j = 4 := by simp [hdZ] at hj; omega
      rcases this with rfl | rfl | rfl | rfl | rfl <;> simp [go_sem, hdZ]
    · repeat' first | exact Below.refl _ _ | refine Below.setCell ?_ (by simp) _ | refine Below.alloc ?_ (by simp) _ | refine Below.alloc ?_ (by simp; omega) _
    · simp
  case round =>
    obtain ⟨j, hj, rfl, hcs, hrs, HB, hsz⟩ := hrel
    have b0 : wr.cell? ⟨w.heap.size + 1, 0, none⟩ = some (.int .i64 A) := (hcs.out 0 (by simp)).1
    have b1 : wr.cell? ⟨w.heap.size + 1, 1, none⟩ = some (.bool md) := (hcs.out 1 (by simp)).1
    have b2 : wr.cell? ⟨w.heap.size + 1, 2, none⟩ = some (.int .i64 G) := (hcs.out 2 (by simp)).1
    have b3 : wr.cell? ⟨w.heap.size + 1, 3, none⟩ = some (.int .i64 (num 0 ((s.data.toList.drop (p + 2)).take j) : Int)) := (hcs.out 3 (by simp)).1
    have b4 : wr.cell? ⟨w.heap.size + 1, 4, none⟩ = some (.int .i64 Z) := (hcs.out 4 (by simp)).1
    have z3 : wr.frozen? ⟨w.heap.size + 1, 3, none⟩ = false := (hcs.out 3 (by simp)).2
    by_cases hlt : j < k
    · have hn := hN.out j hlt
      have hjs : p + 2 + j < s.size := Nat.lt_of_lt_of_le (Nat.add_lt_add_left hlt _) hks'.out
      have hst := hK.out j hjs
      have hIQ : p + 2 + j < p + 2 + k := Nat.add_lt_add_left hlt _
      have hnx : Hid (p + 2 + j + 1 = p + 2 + (j + 1)) := rfl
      generalize hI : p + 2 + j = I at *
      have d8 : decide ((I : Int) < Q) = true := decide_eq_true (by rw [hQk'.out]; exact Int.ofNat_lt.2 hIQ)
      have j0 : (0 : Int) ≤ (I : Int) := Int.natCast_nonneg _
      have j1 : (I : Int) < (s.size : Int) := Int.ofNat_lt.2 hjs
      have hjw : wrap64 ((I : Int) + 1) = ((I + 1 : Nat) : Int) := wrap_next _ (Nat.le_trans (Nat.le_of_lt hjs) hm'.out)
      obtain ⟨v, hv⟩ : ∃ v : Nat, num 0 ((s.data.toList.drop (p + 2)).take j) = v := ⟨_, rfl⟩
      rw [hv] at hst hn b3 hcs
      obtain ⟨hw1, hw2, hw3⟩ := round_nums v (s[I]'hjs).toNat hn (s[I]'hjs).toNat_lt
      have hcs3 := cast_step _ _ _ hst
      obtain ⟨B, hB⟩ : ∃ B : Int, ((s[I]'hjs).toNat : Int) = B := ⟨_, rfl⟩
      rw [hB] at hw1 hw3 hcs3
      obtain ⟨V, hV⟩ : ∃ V : Int, (v : Int) * 256 + B = V := ⟨_, rfl⟩
      rw [hV] at hw3 hcs3
      have hfin : Hid ((num 0 ((s.data.toList.drop (p + 2)).take (j + 1)) : Int) = V) := hcs3
      have hC : Hid (Cells (wr.setCell ⟨w.heap.size + 1, 3, none⟩ (.int .i64 V)) (w.heap.size + 1) [.int .i64 A, .bool md, .int .i64 G, .int .i64 V, .int .i64 Z]) := hcs.out.set 3 (by simp) _
      have hR : Hid (Cells (wr.setCell ⟨w.heap.size + 1, 3, none⟩ (.int .i64 V)) w.heap.size hdZ) := hrs.out.of_block (Below.heap_setCell _ _ _ _ (by simp))
      clear hcs3
      have hI' : Hid (p + 2 + j = I) := hI
      have hjw' : Hid (wrap64 ((I : Int) + 1) = ((I + 1 : Nat) : Int)) := hjw
      have hBs : Hid (Below w.heap.size w (wr.setCell ⟨w.heap.size + 1, 3, none⟩ (.int .i64 V)).drew) := by
        unfold Hid
        exact Below.drew (Below.setCell HB (Nat.le_succ _) _)
      have hss : Hid (w.heap.size + 1 < (wr.setCell ⟨w.heap.size + 1, 3, none⟩ (.int .i64 V)).drew.heap.size) := by
        unfold Hid
        show w.heap.size + 1 < (wr.setCell ⟨w.heap.size + 1, 3, none⟩ (.int .i64 V)).heap.size
        rw [World.size_setCell]
        exact hsz
      have hIQ' : Hid (I < p + 2 + k) := hIQ
      have hlt' : Hid (j < k) := hlt
      clear hst hn hcs hrs hv hK hN hI hIQ hlt
      go_wp2_with fail
      go_region
      all_goals (try go_wp2)
      go_roundw
      case rel => exact ⟨j + 1, hlt'.out, by rw [hjw'.out, hnx.out], by rw [hfin.out]; exact hC.out, hR.out, hBs.out, hss.out⟩
      case measure => exact meas_down (p + 2 + k) I hIQ'.out hjw'.out
    · have hjk : j = k := Nat.le_antisymm hj (Nat.le_of_not_lt hlt)
      subst hjk
      have hQ2 := hQk'.out
      generalize hI : p + 2 + j = I at *
      have d8 : decide ((I : Int) < Q) = false := decide_eq_false (by rw [hQ2]; exact Int.lt_irrefl _)
      clear hQ2 hI
      have r0 : wr.cell? ⟨w.heap.size, 0, none⟩ = some (.int .i64 0) := (hrs.out 0 (by simp [hdZ])).1
      have r1 : wr.cell? ⟨w.heap.size, 1, none⟩ = some (.bool false) := (hrs.out 1 (by simp [hdZ])).1
      have r2 : wr.cell? ⟨w.heap.size, 2, none⟩ = some (.int .i64 0) := (hrs.out 2 (by simp [hdZ])).1
      have r3 : wr.cell? ⟨w.heap.size, 3, none⟩ = some (.int .i64 0) := (hrs.out 3 (by simp [hdZ])).1
      have r4 : wr.cell? ⟨w.heap.size, 4, none⟩ = some (.int .i64 0) := (hrs.out 4 (by simp [hdZ])).1
      have y0 : wr.frozen? ⟨w.heap.size, 0, none⟩ = false := (hrs.out 0 (by simp [hdZ])).2
      have y1 : wr.frozen? ⟨w.heap.size, 1, none⟩ = false := (hrs.out 1 (by simp [hdZ])).2
      have y2 : wr.frozen? ⟨w.heap.size, 2, none⟩ = false := (hrs.out 2 (by simp [hdZ])).2
      have y3 : wr.frozen? ⟨w.heap.size, 3, none⟩ = false := (hrs.out 3 (by simp [hdZ])).2
      have y4 : wr.frozen? ⟨w.heap.size, 4, none⟩ = false := (hrs.out 4 (by simp [hdZ])).2
      clear hcs hrs hK hN
      go_wp2_with fail
      refine bodyPost_ret_by (v := .tuple #[.agg #[.int .i64 A, .bool md, .int .i64 G, .int .i64 (num 0 ((s.data.toList.drop (p + 2)).take j) : Int), .int .i64 Z], .int .i64 0, .int .i64 (p : Int)]) ?_ rfl ⟨rfl, ?_⟩
      · simp [results, Tryd.results66, go_sem, r0, r1, r2, r3, r4]
      · refine Below.setCell (Below.setCell (Below.setCell (Below.setCell (Below.setCell HB ?_ _) ?_ _) ?_ _) ?_ _) ?_ _ <;> exact Nat.le_refl _
end Go.Proofs.YtkiidlnimjjnlaaDoor
