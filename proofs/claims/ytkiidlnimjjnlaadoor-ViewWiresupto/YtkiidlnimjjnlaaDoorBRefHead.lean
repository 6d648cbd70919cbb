import Derived.Test.YtkiidlnimjjnlaaDoorBRefHead0
namespace Go.Proofs.YtkiidlnimjjnlaaDoor
open Go.RowKit
open BerMath (Hd HR num hAt)

/-- What the reference's headAt answers. -/
def refHV (b : List UInt8) (p e : Nat) : Value :=
  match hAt b p e with
  | .ok h => .tuple #[hdV h, .int .i64 0, .int .i64 (p : Int)]
  | .error (some (c, q)) => .tuple #[.agg hdZ.toArray, .int .i64 (c : Int), .int .i64 (q : Int)]
  | .error none => .tuple #[.agg hdZ.toArray, .int .i64 (-1), .int .i64 (e : Int)]

theorem w_nat (n : Nat) (h : n < 256) : wrap64 (n : Int) = (n : Int) := by unfold wrap64; omega
theorem w_p1 (p : Nat) (h : p ≤ 140737488355328) : wrap64 ((p : Int) + 1) = (p : Int) + 1 := by unfold wrap64; omega
theorem w_p2 (p : Nat) (h : p ≤ 140737488355328) : Hid (wrap64 ((p : Int) + 2) = ((p + 2 : Nat) : Int)) := by unfold Hid wrap64; omega
theorem w_X (l : Nat) (h : l < 256) : wrap64 (2 + (l : Int)) = 2 + (l : Int) := by unfold wrap64; omega
theorem w_Z (l k : Nat) (h : l = 128 + k) (h2 : l < 256) : wrap64 (2 + (l : Int) - 128) = ((k + 2 : Nat) : Int) := by unfold wrap64; omega
theorem w_Q (p k : Nat) (h : p ≤ 140737488355328) (h2 : k ≤ 4) : wrap64 ((p : Int) + ((k + 2 : Nat) : Int)) = ((p + 2 + k : Nat) : Int) := by unfold wrap64; omega

set_option maxRecDepth 100000 in
set_option maxHeartbeats 1000000 in
theorem refHeadAt_any (s : ByteArray) (p e : Nat) (w : World) (he : e ≤ s.size) (hm : s.size ≤ 140737488355328) (hp : p ≤ e) :
    Calls Tryd.prog 66 #[.string s, .int .i64 (p : Int), .int .i64 (e : Int)] w fun r w' => r = .returned (refHV s.data.toList p e) ∧ Below w.heap.size w w' := by
  have p0 : (0 : Int) ≤ (p : Int) := by omega
  have pm : (p : Int) ≤ 140737488355328 := by omega
  by_cases h1 : e ≤ p
  · have hr : refHV s.data.toList p e = .tuple #[.agg hdZ.toArray, .int .i64 (-1), .int .i64 (e : Int)] := by unfold refHV hAt; rw [if_pos h1]
    rw [hr]
    clear hr hp he hm
    go_enter Tryd.func66, Tryd.ntmps66
    go_wp2_with fail
    refine bodyPost_ret_by (v := .tuple #[.agg hdZ.toArray, .int .i64 (-1), .int .i64 (e : Int)]) ?_ rfl ⟨rfl, ?_⟩
    · simp [results, Tryd.results66, go_sem, hdZ]
    · repeat' first | exact Below.refl _ _ | refine Below.setCell ?_ (by simp) _ | refine Below.alloc ?_ (by simp) _ | refine Below.alloc ?_ (by simp; omega) _
  have hps : p < s.size := by omega
  have g0 : Hid (s.data.toList.getD p 0 = s[p]) := getD_s s p hps
  have p1 : (p : Int) < (s.size : Int) := by omega
  obtain ⟨t, ht⟩ : ∃ t, Hid (s[p].toNat = t) := ⟨_, by unfold Hid; rfl⟩
  have ht256 : t < 256 := by rw [← ht.out]; exact s[p].toNat_lt
  have hwt : Hid (wrap64 (s[p].toNat : Int) = (t : Int)) := by unfold Hid; rw [ht.out]; unfold wrap64; omega
  have t0 : (0 : Int) ≤ (t : Int) := by omega
  have t1 : (t : Int) < 256 := by omega
  have ht32 : (t : Int).tmod 32 = ((t % 32 : Nat) : Int) := by rw [Int.tmod_eq_emod_of_nonneg t0]; omega
  by_cases h2 : t % 32 = 31
  · have hr : refHV s.data.toList p e = .tuple #[.agg hdZ.toArray, .int .i64 21, .int .i64 (p : Int)] := by unfold refHV hAt; rw [if_neg h1, g0.out, ht.out, if_pos h2]; rfl
    rw [hr]
    have d2 : (((t % 32 : Nat) : Int) == 31) = true := by rw [beq_iff_eq]; omega
    clear hr hp he hm h2 ht
    replace hwt := hwt.out
    go_enter Tryd.func66, Tryd.ntmps66
    go_wp2_with fail
    refine bodyPost_ret_by (v := .tuple #[.agg hdZ.toArray, .int .i64 21, .int .i64 (p : Int)]) ?_ rfl ⟨rfl, ?_⟩
    · simp [results, Tryd.results66, go_sem, hdZ]
    · repeat' first | exact Below.refl _ _ | refine Below.setCell ?_ (by simp) _ | refine Below.alloc ?_ (by simp) _ | refine Below.alloc ?_ (by simp; omega) _
  have d2 : (((t % 32 : Nat) : Int) == 31) = false := by rw [beq_eq_false_iff_ne]; omega
  by_cases h3 : e ≤ p + 1
  · have hr : refHV s.data.toList p e = .tuple #[.agg hdZ.toArray, .int .i64 (-1), .int .i64 (e : Int)] := by unfold refHV hAt; rw [if_neg h1, g0.out, ht.out, if_neg h2, if_pos h3]
    rw [hr]
    have d3 : decide ((e : Int) ≤ (p : Int) + 1) = true := decide_eq_true (by omega)
    clear hr hp he hm h2 h3 ht
    replace hwt := hwt.out
    go_enter Tryd.func66, Tryd.ntmps66
    go_wp2_with fail
    refine bodyPost_ret_by (v := .tuple #[.agg hdZ.toArray, .int .i64 (-1), .int .i64 (e : Int)]) ?_ rfl ⟨rfl, ?_⟩
    · simp [results, Tryd.results66, go_sem, hdZ]
    · repeat' first | exact Below.refl _ _ | refine Below.setCell ?_ (by simp) _ | refine Below.alloc ?_ (by simp) _ | refine Below.alloc ?_ (by simp; omega) _
  have d3 : decide ((e : Int) ≤ (p : Int) + 1) = false := decide_eq_false (by omega)
  have hqs : p + 1 < s.size := by omega
  have g1 : Hid (s.data.toList.getD (p + 1) 0 = s[p + 1]) := getD_s s (p + 1) hqs
  have q1 : (p : Int) + 1 < (s.size : Int) := by omega
  have pp1 : ((p + 1 : Nat) : Int) = (p : Int) + 1 := by omega
  obtain ⟨l, hl⟩ : ∃ l, Hid (s[p + 1].toNat = l) := ⟨_, by unfold Hid; rfl⟩
  have hl256 : l < 256 := by rw [← hl.out]; exact s[p + 1].toNat_lt
  have hwl : Hid (wrap64 (s[p + 1].toNat : Int) = (l : Int)) := by unfold Hid; rw [hl.out]; unfold wrap64; omega
  have l0 : (0 : Int) ≤ (l : Int) := by omega
  have l1 : (l : Int) < 256 := by omega
  by_cases h4 : l = 128
  · have hr : refHV s.data.toList p e = .tuple #[.agg hdZ.toArray, .int .i64 ((22 : Nat) : Int), .int .i64 ((p + 1 : Nat) : Int)] := by unfold refHV hAt; rw [if_neg h1, g0.out, ht.out, if_neg h2, if_neg h3, g1.out, hl.out, if_pos h4]
    rw [hr, pp1]
    have d4 : ((l : Int) == 128) = true := by rw [beq_iff_eq]; omega
    clear hr hp he hm h2 h3 h4 ht hl
    replace hwt := hwt.out
    replace hwl := hwl.out
    go_enter Tryd.func66, Tryd.ntmps66
    go_wp2_with fail
    refine bodyPost_ret_by (v := .tuple #[.agg hdZ.toArray, .int .i64 ((22 : Nat) : Int), .int .i64 ((p : Int) + 1)]) ?_ rfl ⟨rfl, ?_⟩
    · simp [results, Tryd.results66, go_sem, hdZ]
    · repeat' first | exact Below.refl _ _ | refine Below.setCell ?_ (by simp) _ | refine Below.alloc ?_ (by simp) _ | refine Below.alloc ?_ (by simp; omega) _
  have d4 : ((l : Int) == 128) = false := by rw [beq_eq_false_iff_ne]; omega
  by_cases h5 : 132 < l
  · have hr : refHV s.data.toList p e = .tuple #[.agg hdZ.toArray, .int .i64 ((23 : Nat) : Int), .int .i64 ((p + 1 : Nat) : Int)] := by unfold refHV hAt; rw [if_neg h1, g0.out, ht.out, if_neg h2, if_neg h3, g1.out, hl.out, if_neg h4, if_pos h5]
    rw [hr, pp1]
    have d5 : decide ((132 : Int) < (l : Int)) = true := decide_eq_true (by omega)
    clear hr hp he hm h2 h3 h4 h5 ht hl
    replace hwt := hwt.out
    replace hwl := hwl.out
    go_enter Tryd.func66, Tryd.ntmps66
    go_wp2_with fail
    refine bodyPost_ret_by (v := .tuple #[.agg hdZ.toArray, .int .i64 ((23 : Nat) : Int), .int .i64 ((p : Int) + 1)]) ?_ rfl ⟨rfl, ?_⟩
    · simp [results, Tryd.results66, go_sem, hdZ]
    · repeat' first | exact Below.refl _ _ | refine Below.setCell ?_ (by simp) _ | refine Below.alloc ?_ (by simp) _ | refine Below.alloc ?_ (by simp; omega) _
  have d5 : decide ((132 : Int) < (l : Int)) = false := decide_eq_false (by omega)
  have ht64 : (t : Int).tdiv 64 = ((t / 64 : Nat) : Int) := by rw [Int.tdiv_eq_ediv_of_nonneg t0]; omega
  have htd : (t : Int).tdiv 32 = ((t / 32 : Nat) : Int) := by rw [Int.tdiv_eq_ediv_of_nonneg t0]; omega
  have htm : ((t / 32 : Nat) : Int).tmod 2 = ((t / 32 % 2 : Nat) : Int) := by rw [Int.tmod_eq_emod_of_nonneg (by omega)]; omega
  obtain ⟨md, hmd⟩ : ∃ md : Bool, (((t / 32 % 2 : Nat) : Int) == 1) = md := ⟨_, rfl⟩
  have hmd' : Hid (decide (t / 32 % 2 = 1) = md) := by
    unfold Hid
    rw [← hmd]
    rcases Nat.mod_two_eq_zero_or_one (t / 32) with h | h <;> rw [h] <;> rfl
  have hpm : p ≤ 140737488355328 := by omega
  have ht6 : t / 64 < 256 := by omega
  have ht3 : t / 32 < 256 := by omega
  by_cases h6 : l < 128
  · have hr : refHV s.data.toList p e = .tuple #[.agg #[.int .i64 ((t / 64 : Nat) : Int), .bool md, .int .i64 ((t % 32 : Nat) : Int), .int .i64 (l : Int), .int .i64 2], .int .i64 0, .int .i64 (p : Int)] := by
      unfold refHV hAt; rw [if_neg h1, g0.out, ht.out, if_neg h2, if_neg h3, g1.out, hl.out, if_neg h4, if_neg h5, if_pos h6, hmd'.out]; rfl
    rw [hr]
    have d6 : decide ((128 : Int) < (l : Int)) = false := decide_eq_false (by omega)
    exact refHead_short s p e w _ _ _ _ _ _ md h1 p0 p1 hps hwt.out ht32 d2 (w_p1 p hpm) d3 hqs q1 hwl.out d4 d5 d6 ht64 (w_nat _ ht6) htd (w_nat _ ht3) htm hmd
  have d6 : decide ((128 : Int) < (l : Int)) = true := decide_eq_true (by omega)
  obtain ⟨k, hk⟩ : ∃ k, l = 128 + k := ⟨l - 128, by omega⟩
  have e1 : l - 126 = k + 2 := by omega
  have e2 : l - 128 = k := by omega
  have hk4 : k ≤ 4 := by omega
  have hks : p + (k + 2) ≤ e → p + 2 + k ≤ s.size := by omega
  have d7 : e < p + (k + 2) → decide ((e : Int) < ((p + 2 + k : Nat) : Int)) = true := fun h => decide_eq_true (by omega)
  have d7' : p + (k + 2) ≤ e → decide ((e : Int) < ((p + 2 + k : Nat) : Int)) = false := fun h => decide_eq_false (by omega)
  by_cases h7 : e < p + (k + 2)
  · have hr : refHV s.data.toList p e = .tuple #[.agg hdZ.toArray, .int .i64 (-1), .int .i64 (e : Int)] := by
      unfold refHV hAt; rw [if_neg h1, g0.out, ht.out, if_neg h2, if_neg h3, g1.out, hl.out, if_neg h4, if_neg h5, if_neg h6, e1, if_pos h7]
    rw [hr]
    exact refHead_cut s p e w _ _ _ _ _ _ _ _ _ md h1 p0 p1 hps hwt.out ht32 d2 (w_p1 p hpm) d3 hqs q1 hwl.out d4 d5 d6 ht64 (w_nat _ ht6) htd (w_nat _ ht3) htm hmd (w_X l hl256) (w_Z l k hk hl256) (w_Q p k hpm hk4) (d7 h7)
  · have hr : refHV s.data.toList p e = .tuple #[.agg #[.int .i64 ((t / 64 : Nat) : Int), .bool md, .int .i64 ((t % 32 : Nat) : Int), .int .i64 (num 0 ((s.data.toList.drop (p + 2)).take k) : Int), .int .i64 ((k + 2 : Nat) : Int)], .int .i64 0, .int .i64 (p : Int)] := by
      unfold refHV hAt; rw [if_neg h1, g0.out, ht.out, if_neg h2, if_neg h3, g1.out, hl.out, if_neg h4, if_neg h5, if_neg h6, e1, if_neg h7, e2, hmd'.out]; rfl
    rw [hr]
    exact refHead_long s p e w _ _ _ _ _ _ _ _ _ md h1 p0 p1 hps hwt.out ht32 d2 (w_p1 p hpm) d3 hqs q1 hwl.out d4 d5 d6 ht64 (w_nat _ ht6) htd (w_nat _ ht3) htm hmd (w_X l hl256) (w_Z l k hk hl256) (w_Q p k hpm hk4) (d7' (Nat.le_of_not_lt h7)) k hk4 rfl (hks (Nat.le_of_not_lt h7)) (w_p2 p hpm) hm

theorem refHV_tup (b : List UInt8) (p e : Nat) : ∃ (l0 : Int) (l1 : Bool) (l2 l3 l4 c q : Int), refHV b p e = .tuple #[.agg #[.int .i64 l0, .bool l1, .int .i64 l2, .int .i64 l3, .int .i64 l4], .int .i64 c, .int .i64 q] := by
  unfold refHV
  cases hAt b p e with
  | ok h => exact ⟨_, _, _, _, _, _, _, rfl⟩
  | error o =>
    cases o with
    | some cq =>
      obtain ⟨c, q⟩ := cq
      exact ⟨0, false, 0, 0, 0, _, _, rfl⟩
    | none => exact ⟨0, false, 0, 0, 0, _, _, rfl⟩
end Go.Proofs.YtkiidlnimjjnlaaDoor
