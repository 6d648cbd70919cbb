import Derived.Test.YtkiidlnimjjnlaaDoorBJoin1
namespace Go.Proofs.YtkiidlnimjjnlaaDoor
open Go.RowKit
open BerMath (lo)

set_option maxRecDepth 100000 in
set_option maxHeartbeats 2000000 in
theorem putLength_any (B : Nat) (v : Value) (l : List UInt8) (n : Nat) (w : World) (hown0 : Own w B v l) (hB : B ≤ w.heap.size) (hl : l.length ≤ 549755813888) :
    Calls Tryd.prog 65 #[v, .int .i64 (n : Int)] w fun r w' => ∃ v', r = .returned v' ∧ Own w' B v' (l ++ lenB n) ∧ Below B w w' := by
  have hLL : ∀ W, Hid (Calls Tryd.prog 73 #[.int .i64 (n : Int)] W fun r w' => r = .returned (.int .i64 (ll n : Int)) ∧ W = w') := fun W => longLength_any n W
  have hw1 := lo_wrap (n : Int)
  have hw2 := lo_wrap ((n : Int) / 256)
  have hw3 := lo_wrap ((n : Int) / 65536)
  have hw4 := lo_wrap ((n : Int) / 16777216)
  have HB : Below B w w := Below.refl _ _
  have hown := hown0
  clear hown0
  rcases ll_cases n with ⟨a, e⟩ | ⟨a, b, e⟩ | ⟨a, b, c, e⟩ | ⟨a, b, c, d, e⟩ | ⟨a, b, c, d, e⟩
  · have hlb : Hid (lenB n = [lo (n : Int)]) := by unfold Hid lenB; rw [if_pos a]
    rw [e] at hLL
    clear a e
    go_enter Tryd.func65, Tryd.ntmps65
    go_upto_region 11 with ((go_at_call 73; refine (hLL _).out.mono ?_; rintro r w1 ⟨rfl, rfl⟩))
    go_upto_region 12 with (at_builtin; refine push_byte _ rfl _ _ rfl B _ ?q1l (lo (n : Int)) rfl rfl ?q1a ?q1b ?q1c ?q1d; (case q1a => exact hown); (case q1b => exact Nat.le_trans hB HB.size); (case q1c => first | exact Nat.le_trans hl (by decide) | (simp only [List.length_append, List.length_cons, List.length_nil]; omega)); intro v1 w1 hown1 hb1; replace HB := HB.trans hb1; replace hown := hown1; clear hb1)
    go_wp2_with fail
    go_ret
    exact ⟨_, rfl, by rw [hlb.out]; simpa [List.append_assoc] using hown, HB⟩
  · have hlb : Hid (lenB n = [129, lo (n : Int)]) := by unfold Hid lenB; rw [if_neg a, if_pos b]
    rw [e] at hLL
    obtain ⟨c0, hc0⟩ : ∃ c0 : UInt8, c0 = 129 := ⟨_, rfl⟩
    have hor : bits .or .u8 128 1 = (c0.toNat : Int) := by rw [hc0]; decide +kernel
    rw [← hc0] at hlb
    clear hc0
    clear a b e
    go_enter Tryd.func65, Tryd.ntmps65
    go_upto_region 11 with (first | (go_at_call 73; refine (hLL _).out.mono ?_; rintro r w1 ⟨rfl, rfl⟩) | (at_builtin; refine push_byte _ rfl _ _ rfl B _ ?q2l (c0) rfl rfl ?q2a ?q2b ?q2c ?q2d; (case q2a => exact hown); (case q2b => exact Nat.le_trans hB HB.size); (case q2c => first | exact Nat.le_trans hl (by decide) | (simp only [List.length_append, List.length_cons, List.length_nil]; omega)); intro v1 w1 hown1 hb1; replace HB := HB.trans hb1; replace hown := hown1; clear hb1))
    go_upto_region 12 with (at_builtin; refine push_byte _ rfl _ _ rfl B _ ?q3l (lo (n : Int)) rfl rfl ?q3a ?q3b ?q3c ?q3d; (case q3a => exact hown); (case q3b => exact Nat.le_trans hB HB.size); (case q3c => first | exact Nat.le_trans hl (by decide) | (simp only [List.length_append, List.length_cons, List.length_nil]; omega)); intro v1 w1 hown1 hb1; replace HB := HB.trans hb1; replace hown := hown1; clear hb1)
    go_wp2_with fail
    go_ret
    exact ⟨_, rfl, by rw [hlb.out]; simpa [List.append_assoc] using hown, HB⟩
  · have hlb : Hid (lenB n = [130, lo ((n : Int) / 256), lo (n : Int)]) := by unfold Hid lenB; rw [if_neg a, if_neg b, if_pos c]
    rw [e] at hLL
    obtain ⟨c0, hc0⟩ : ∃ c0 : UInt8, c0 = 130 := ⟨_, rfl⟩
    have hor : bits .or .u8 128 2 = (c0.toNat : Int) := by rw [hc0]; decide +kernel
    rw [← hc0] at hlb
    clear hc0
    clear a b c e
    go_enter Tryd.func65, Tryd.ntmps65
    go_upto_region 10 with (first | (go_at_call 73; refine (hLL _).out.mono ?_; rintro r w1 ⟨rfl, rfl⟩) | (at_builtin; refine push_byte _ rfl _ _ rfl B _ ?q4l (c0) rfl rfl ?q4a ?q4b ?q4c ?q4d; (case q4a => exact hown); (case q4b => exact Nat.le_trans hB HB.size); (case q4c => first | exact Nat.le_trans hl (by decide) | (simp only [List.length_append, List.length_cons, List.length_nil]; omega)); intro v1 w1 hown1 hb1; replace HB := HB.trans hb1; replace hown := hown1; clear hb1))
    go_upto_region 11 with (at_builtin; refine push_byte _ rfl _ _ rfl B _ ?q5l (lo ((n : Int) / 256)) rfl rfl ?q5a ?q5b ?q5c ?q5d; (case q5a => exact hown); (case q5b => exact Nat.le_trans hB HB.size); (case q5c => first | exact Nat.le_trans hl (by decide) | (simp only [List.length_append, List.length_cons, List.length_nil]; omega)); intro v1 w1 hown1 hb1; replace HB := HB.trans hb1; replace hown := hown1; clear hb1)
    go_upto_region 12 with (at_builtin; refine push_byte _ rfl _ _ rfl B _ ?q6l (lo (n : Int)) rfl rfl ?q6a ?q6b ?q6c ?q6d; (case q6a => exact hown); (case q6b => exact Nat.le_trans hB HB.size); (case q6c => first | exact Nat.le_trans hl (by decide) | (simp only [List.length_append, List.length_cons, List.length_nil]; omega)); intro v1 w1 hown1 hb1; replace HB := HB.trans hb1; replace hown := hown1; clear hb1)
    go_wp2_with fail
    go_ret
    exact ⟨_, rfl, by rw [hlb.out]; simpa [List.append_assoc] using hown, HB⟩
  · have hlb : Hid (lenB n = [131, lo ((n : Int) / 65536), lo ((n : Int) / 256), lo (n : Int)]) := by unfold Hid lenB; rw [if_neg a, if_neg b, if_neg c, if_pos d]
    rw [e] at hLL
    obtain ⟨c0, hc0⟩ : ∃ c0 : UInt8, c0 = 131 := ⟨_, rfl⟩
    have hor : bits .or .u8 128 3 = (c0.toNat : Int) := by rw [hc0]; decide +kernel
    rw [← hc0] at hlb
    clear hc0
    clear a b c d e
    go_enter Tryd.func65, Tryd.ntmps65
    go_upto_region 9 with (first | (go_at_call 73; refine (hLL _).out.mono ?_; rintro r w1 ⟨rfl, rfl⟩) | (at_builtin; refine push_byte _ rfl _ _ rfl B _ ?q7l (c0) rfl rfl ?q7a ?q7b ?q7c ?q7d; (case q7a => exact hown); (case q7b => exact Nat.le_trans hB HB.size); (case q7c => first | exact Nat.le_trans hl (by decide) | (simp only [List.length_append, List.length_cons, List.length_nil]; omega)); intro v1 w1 hown1 hb1; replace HB := HB.trans hb1; replace hown := hown1; clear hb1))
    go_upto_region 10 with (at_builtin; refine push_byte _ rfl _ _ rfl B _ ?q8l (lo ((n : Int) / 65536)) rfl rfl ?q8a ?q8b ?q8c ?q8d; (case q8a => exact hown); (case q8b => exact Nat.le_trans hB HB.size); (case q8c => first | exact Nat.le_trans hl (by decide) | (simp only [List.length_append, List.length_cons, List.length_nil]; omega)); intro v1 w1 hown1 hb1; replace HB := HB.trans hb1; replace hown := hown1; clear hb1)
    go_upto_region 11 with (at_builtin; refine push_byte _ rfl _ _ rfl B _ ?q9l (lo ((n : Int) / 256)) rfl rfl ?q9a ?q9b ?q9c ?q9d; (case q9a => exact hown); (case q9b => exact Nat.le_trans hB HB.size); (case q9c => first | exact Nat.le_trans hl (by decide) | (simp only [List.length_append, List.length_cons, List.length_nil]; omega)); intro v1 w1 hown1 hb1; replace HB := HB.trans hb1; replace hown := hown1; clear hb1)
    go_upto_region 12 with (at_builtin; refine push_byte _ rfl _ _ rfl B _ ?q10l (lo (n : Int)) rfl rfl ?q10a ?q10b ?q10c ?q10d; (case q10a => exact hown); (case q10b => exact Nat.le_trans hB HB.size); (case q10c => first | exact Nat.le_trans hl (by decide) | (simp only [List.length_append, List.length_cons, List.length_nil]; omega)); intro v1 w1 hown1 hb1; replace HB := HB.trans hb1; replace hown := hown1; clear hb1)
    go_wp2_with fail
    go_ret
    exact ⟨_, rfl, by rw [hlb.out]; simpa [List.append_assoc] using hown, HB⟩
  · have hlb : Hid (lenB n = [132, lo ((n : Int) / 16777216), lo ((n : Int) / 65536), lo ((n : Int) / 256), lo (n : Int)]) := by unfold Hid lenB; rw [if_neg a, if_neg b, if_neg c, if_neg d]
    rw [e] at hLL
    obtain ⟨c0, hc0⟩ : ∃ c0 : UInt8, c0 = 132 := ⟨_, rfl⟩
    have hor : bits .or .u8 128 4 = (c0.toNat : Int) := by rw [hc0]; decide +kernel
    rw [← hc0] at hlb
    clear hc0
    clear a b c d e
    go_enter Tryd.func65, Tryd.ntmps65
    go_upto_region 8 with (first | (go_at_call 73; refine (hLL _).out.mono ?_; rintro r w1 ⟨rfl, rfl⟩) | (at_builtin; refine push_byte _ rfl _ _ rfl B _ ?q11l (c0) rfl rfl ?q11a ?q11b ?q11c ?q11d; (case q11a => exact hown); (case q11b => exact Nat.le_trans hB HB.size); (case q11c => first | exact Nat.le_trans hl (by decide) | (simp only [List.length_append, List.length_cons, List.length_nil]; omega)); intro v1 w1 hown1 hb1; replace HB := HB.trans hb1; replace hown := hown1; clear hb1))
    go_upto_region 9 with (at_builtin; refine push_byte _ rfl _ _ rfl B _ ?q12l (lo ((n : Int) / 16777216)) rfl rfl ?q12a ?q12b ?q12c ?q12d; (case q12a => exact hown); (case q12b => exact Nat.le_trans hB HB.size); (case q12c => first | exact Nat.le_trans hl (by decide) | (simp only [List.length_append, List.length_cons, List.length_nil]; omega)); intro v1 w1 hown1 hb1; replace HB := HB.trans hb1; replace hown := hown1; clear hb1)
    go_upto_region 10 with (at_builtin; refine push_byte _ rfl _ _ rfl B _ ?q13l (lo ((n : Int) / 65536)) rfl rfl ?q13a ?q13b ?q13c ?q13d; (case q13a => exact hown); (case q13b => exact Nat.le_trans hB HB.size); (case q13c => first | exact Nat.le_trans hl (by decide) | (simp only [List.length_append, List.length_cons, List.length_nil]; omega)); intro v1 w1 hown1 hb1; replace HB := HB.trans hb1; replace hown := hown1; clear hb1)
    go_upto_region 11 with (at_builtin; refine push_byte _ rfl _ _ rfl B _ ?q14l (lo ((n : Int) / 256)) rfl rfl ?q14a ?q14b ?q14c ?q14d; (case q14a => exact hown); (case q14b => exact Nat.le_trans hB HB.size); (case q14c => first | exact Nat.le_trans hl (by decide) | (simp only [List.length_append, List.length_cons, List.length_nil]; omega)); intro v1 w1 hown1 hb1; replace HB := HB.trans hb1; replace hown := hown1; clear hb1)
    go_upto_region 12 with (at_builtin; refine push_byte _ rfl _ _ rfl B _ ?q15l (lo (n : Int)) rfl rfl ?q15a ?q15b ?q15c ?q15d; (case q15a => exact hown); (case q15b => exact Nat.le_trans hB HB.size); (case q15c => first | exact Nat.le_trans hl (by decide) | (simp only [List.length_append, List.length_cons, List.length_nil]; omega)); intro v1 w1 hown1 hb1; replace HB := HB.trans hb1; replace hown := hown1; clear hb1)
    go_wp2_with fail
    go_ret
    exact ⟨_, rfl, by rw [hlb.out]; simpa [List.append_assoc] using hown, HB⟩
end Go.Proofs.YtkiidlnimjjnlaaDoor
