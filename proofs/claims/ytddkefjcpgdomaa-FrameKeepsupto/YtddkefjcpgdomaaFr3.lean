import Derived.Test.YtddkefjcpgdomaaFrL
import Derived.Deep.DeepCutAuto
namespace Go.Proofs.Ytddkefjcpgdomaa
open Go.RowKit
open FrMath (Hdr lb bd within Out ends cut Cut)

set_option maxRecDepth 100000 in
set_option maxHeartbeats 400000 in
theorem look_any (lim : Int) (s : ByteArray) (w : World) (hm : s.size ≤ 140737488355328) :
    Calls Try.prog 23 #[.int .i64 lim, .string s] w fun r w' => r = .returned (hV (FrMath.look lim s.data.toList)) ∧ Below w.heap.size w w' := by
  rcases FrMath.look_ways lim s.data.toList with ⟨h0, e⟩ | ⟨h0, h1, e⟩ | ⟨h0, h1, e⟩ | ⟨h0, h1, h2, e⟩ | ⟨h0, h1, h2, e⟩ | ⟨h0, h1, h2, e⟩ | ⟨h0, h1, k, k1, k4, h2, e⟩ <;> rw [e] <;> rw [size_l] at h0 <;> clear e
  · have d0 : ((s.size : Int) == 0) = true := by rw [beq_iff_eq]; omega
    clear h0 hm
    go_enter Try.func23, Try.ntmps23
    go_wp2
    refine bodyPost_ret_by (v := hdr 2 2 0) (by simp [results, Try.results23, go_sem]) rfl ⟨rfl, ?_⟩
    repeat' first | exact Below.refl _ _ | refine Below.setCell ?_ (by simp) _ | refine Below.alloc ?_ (by simp) _ | refine Below.alloc ?_ (by simp; omega) _
  · have d0 : ((s.size : Int) == 0) = false := by rw [beq_eq_false_iff_ne]; omega
    rw [lb_s s 0 h0] at h1
    have d1 : ((s[0].toNat : Int) != 48) = true := by simp; omega
    have p1 : (0 : Int) < (s.size : Int) := by omega
    clear hm h1
    go_enter Try.func23, Try.ntmps23
    go_wp2
    refine bodyPost_ret_by (v := hdr 0 0 30) (by simp [results, Try.results23, go_sem]) rfl ⟨rfl, ?_⟩
    repeat' first | exact Below.refl _ _ | refine Below.setCell ?_ (by simp) _ | refine Below.alloc ?_ (by simp) _ | refine Below.alloc ?_ (by simp; omega) _
  all_goals
    have d0 : ((s.size : Int) == 0) = false := by rw [beq_eq_false_iff_ne]; omega
    have p1 : (0 : Int) < (s.size : Int) := by omega
    have q0 : 0 < s.size := by omega
    rw [lb_s s 0 q0] at h1
    have d1 : ((s[0].toNat : Int) != 48) = false := by simp; omega
    clear h1
  · have d2 : decide ((s.size : Int) < 2) = true := decide_eq_true (by omega)
    clear hm h0
    go_enter Try.func23, Try.ntmps23
    go_wp2
    refine bodyPost_ret_by (v := hdr 1 2 0) (by simp [results, Try.results23, go_sem]) rfl ⟨rfl, ?_⟩
    repeat' first | exact Below.refl _ _ | refine Below.setCell ?_ (by simp) _ | refine Below.alloc ?_ (by simp) _ | refine Below.alloc ?_ (by simp; omega) _
  all_goals
    have d2 : decide ((s.size : Int) < 2) = false := decide_eq_false (by omega)
    have q1 : 1 < s.size := by omega
    have p2 : (1 : Int) < (s.size : Int) := by omega
    obtain ⟨l, hl⟩ : ∃ l, lb s.data.toList 1 = l := ⟨_, rfl⟩
    have hl256 : l < 256 := hl ▸ FrMath.lb_lt _ _
    rw [hl] at h2
    try rw [hl]
    rw [lb_s s 1 q1] at hl
    have hle : (s[1].toNat : Int) = (l : Int) := by omega
  · have d3 : decide ((l : Int) < 128) = true := decide_eq_true (by omega)
    have hw : wrap64 (l : Int) = (l : Int) := by unfold wrap64; omega
    have hw2 : wrap64 (2 + (l : Int)) = ((2 + l : Nat) : Int) := by unfold wrap64; omega
    clear hl h2 h0 hm
    go_enter Try.func23, Try.ntmps23
    go_wp2_with fail
    refine (within_any lim 0 (2 + l) _).mono ?_
    rintro r w1 ⟨rfl, hb1⟩
    obtain ⟨f0, f1, f2, c0, c1, c2⟩ := res_free hb1
    have HB : Below w.heap.size w w1 := ((Below.refl _ _).alloc (Nat.le_refl _) _).trans (hb1.mono (by simp))
    clear hb1
    go_wp2_with fail
    refine bodyPost_ret_by (v := hV (within lim 0 (2 + l))) (by simp [results, Try.results23, go_sem, c0, c1, c2]) rfl ⟨rfl, ?_⟩
    refine Below.setCell (Below.setCell (Below.setCell HB ?_ _) ?_ _) ?_ _ <;> exact Nat.le_refl _
  · have d3 : decide ((l : Int) < 128) = false := decide_eq_false (by omega)
    have d4 : ((l : Int) == 128) = true := by rw [beq_iff_eq]; omega
    clear hl h2 h0 hm
    go_enter Try.func23, Try.ntmps23
    go_wp2
    refine bodyPost_ret_by (v := hdr 0 0 31) (by simp [results, Try.results23, go_sem]) rfl ⟨rfl, ?_⟩
    repeat' first | exact Below.refl _ _ | refine Below.setCell ?_ (by simp) _ | refine Below.alloc ?_ (by simp) _ | refine Below.alloc ?_ (by simp; omega) _
  · have d3 : decide ((l : Int) < 128) = false := decide_eq_false (by omega)
    have d4 : ((l : Int) == 128) = false := by rw [beq_eq_false_iff_ne]; omega
    have d5 : decide ((132 : Int) < (l : Int)) = true := decide_eq_true (by omega)
    clear hl h2 h0 hm
    go_enter Try.func23, Try.ntmps23
    go_wp2
    refine bodyPost_ret_by (v := hdr 0 0 32) (by simp [results, Try.results23, go_sem]) rfl ⟨rfl, ?_⟩
    repeat' first | exact Below.refl _ _ | refine Below.setCell ?_ (by simp) _ | refine Below.alloc ?_ (by simp) _ | refine Below.alloc ?_ (by simp; omega) _
  · have : k = 1 ∨ k = 2 ∨ k = 3 ∨ k = 4 := by omega
    have g0 : (s[1].toNat : Int) = 128 + (k : Int) := by rw [hle, h2]; simp
    have g1 : (s.size : Int) ≤ 140737488355328 := by omega
    clear hl256 k1 k4 hle hl h0 h2 hm
    rcases this with rfl | rfl | rfl | rfl
    · exact look_long1 lim s w q0 q1 p2 d0 d1 d2 g0 g1
    · exact look_long2 lim s w q0 q1 p2 d0 d1 d2 g0 g1
    · exact look_long3 lim s w q0 q1 p2 d0 d1 d2 g0 g1
    · exact look_long4 lim s w q0 q1 p2 d0 d1 d2 g0 g1
end Go.Proofs.Ytddkefjcpgdomaa
