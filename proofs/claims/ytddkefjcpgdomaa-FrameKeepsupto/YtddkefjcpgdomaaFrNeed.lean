import Derived.Test.YtddkefjcpgdomaaFrRef2
import Derived.BigQuiet
namespace Go.Proofs.Ytddkefjcpgdomaa
open Go.RowKit
open FrMath (Hdr lb bd within Out ends cut Cut)

/-- What Need answers. -/
def needN (lim : Int) (b : List UInt8) : Nat := (FrMath.look lim b).sz - b.length
theorem look_small (lim : Int) (b : List UInt8) : (FrMath.look lim b).sz ≤ 4294967302 := by
  by_cases h : (FrMath.look lim b).er = 0
  · exact (FrMath.look_ok lim b h).2.1
  · rw [(FrMath.look_er lim b h).2.1]; omega

theorem frameNeed_any (lim : Int) (s : ByteArray) (w : World) (hm : s.size ≤ 140737488355328) :
    Calls Try.prog 9 #[.int .i64 lim, .string s] w fun r w' => r = .returned (.int .i64 (needN lim s.data.toList : Int)) ∧ Below w.heap.size w w' := by
  have H1 := fun W => look_any lim s W hm
  have hz := look_small lim s.data.toList
  unfold needN
  rw [size_l]
  generalize FrMath.look lim s.data.toList = h at *
  have H2 := fun W => need_any h.mi h.sz h.er s.size W (by omega) hm
  clear hm hz
  go_enter Try.func9, Try.ntmps9
  go_wp2_with fail
  refine (H1 _).mono ?_
  rintro r w1 ⟨rfl, hb1⟩
  go_wp2_with fail
  refine (H2 _).mono ?_
  rintro r w2 ⟨rfl, rfl⟩
  go_wp2_with fail
  go_ret
  exact ⟨rfl, hb1.alloc hb1.size _⟩

theorem refNeed_any (lim : Int) (s : ByteArray) (w : World) (hm : s.size ≤ 140737488355328) :
    Calls Try.prog 11 #[.int .i64 lim, .string s] w fun r w' => r = .returned (.int .i64 (needN lim s.data.toList : Int)) ∧ w = w' := by
  have hH := fun W => refHead_any lim s W
  unfold needN
  rw [size_l]
  by_cases he : (FrMath.look lim s.data.toList).er = 0
  · obtain ⟨z2, zm, _, hmi, _⟩ := FrMath.look_ok lim s.data.toList he
    by_cases hm0 : (FrMath.look lim s.data.toList).mi = 0
    · generalize FrMath.look lim s.data.toList = h at *
      have hr : rV h = .tuple #[.int .i64 (h.sz : Int), .int .i64 0] := by unfold rV rW; rw [if_pos hm0, he]; rfl
      rw [hr] at hH
      generalize h.sz = z at *
      have d1 : 0 < z := by omega
      by_cases hle : z ≤ s.size
      · have e : z - s.size = 0 := by omega
        rw [e]
        clear hr he hmi hm0 zm z2 hm e
        go_enter Try.func11, Try.ntmps11
        go_wp2_with fail
        refine (hH _).mono ?_
        rintro r w1 ⟨rfl, rfl⟩
        go_wp2_with fail
        go_ret
        exact ⟨rfl, rfl⟩
      · have e : Hid (wrap64 ((z : Int) - (s.size : Int)) = ((z - s.size : Nat) : Int)) := by unfold Hid wrap64; omega
        clear hr he hmi hm0 zm z2 hm
        go_enter Try.func11, Try.ntmps11
        go_wp2_with fail
        refine (hH _).mono ?_
        rintro r w1 ⟨rfl, rfl⟩
        go_wp2_with fail
        go_ret
        exact ⟨ret_int e.out, rfl⟩
    · have hr : rV (FrMath.look lim s.data.toList) = .tuple #[.int .i64 0, .int .i64 0] := by unfold rV rW; rw [if_neg hm0, he]; rfl
      rw [hr] at hH
      clear hr
      rcases FrMath.look_ways lim s.data.toList with ⟨h0, e⟩ | ⟨h0, h1, e⟩ | ⟨h0, h1, e⟩ | ⟨h0, h1, h2, e⟩ | ⟨h0, h1, h2, e⟩ | ⟨h0, h1, h2, e⟩ | ⟨h0, h1, k, k1, k4, h2, e⟩ <;> rw [e] at he hm0 ⊢ <;> rw [size_l] at h0
      · have d3 : decide ((s.size : Int) < 2) = true := decide_eq_true (by omega)
        have e : Hid (wrap64 (2 - (s.size : Int)) = ((2 - s.size : Nat) : Int)) := by unfold Hid wrap64; omega
        clear h0 hmi zm z2 he hm0 hm
        go_enter Try.func11, Try.ntmps11
        go_wp2_with fail
        refine (hH _).mono ?_
        rintro r w1 ⟨rfl, rfl⟩
        go_wp2_with fail
        go_ret
        exact ⟨ret_int e.out, rfl⟩
      · cases he
      · have d3 : decide ((s.size : Int) < 2) = true := decide_eq_true (by omega)
        have e : Hid (wrap64 (2 - (s.size : Int)) = ((2 - s.size : Nat) : Int)) := by unfold Hid wrap64; omega
        clear h0 hmi zm z2 he hm0 hm h1
        go_enter Try.func11, Try.ntmps11
        go_wp2_with fail
        refine (hH _).mono ?_
        rintro r w1 ⟨rfl, rfl⟩
        go_wp2_with fail
        go_ret
        exact ⟨ret_int e.out, rfl⟩
      · exact absurd (FrMath.within_z _ _ _ he).1 hm0
      · cases he
      · cases he
      · rw [(FrMath.within_z _ _ _ he).1] at hm0
        rw [(FrMath.within_z _ _ _ he).2]
        rw [size_l] at hm0
        have q1 : 1 < s.size := by omega
        have hl := lb_s s 1 q1
        exact refNeed_long lim s w q1 (by omega) (128 + k) (by omega) (by rw [← hl, h2]) k k4 (furV_k k k1 k4) (by omega) hH
  · obtain ⟨hmi, hsz, h30, h33⟩ := FrMath.look_er lim s.data.toList he
    generalize FrMath.look lim s.data.toList = h at *
    have hr : rV h = .tuple #[.int .i64 0, .int .i64 (h.er : Int)] := by unfold rV rW; rw [if_pos hmi, hsz]; rfl
    rw [hr] at hH
    have e0 : h.sz - s.size = 0 := by omega
    rw [e0]
    have d1 : ((h.er : Int) != 0) = true := by simp; omega
    clear hr hsz hmi h30 h33 e0 he hm
    go_enter Try.func11, Try.ntmps11
    go_wp2_with fail
    refine (hH _).mono ?_
    rintro r w1 ⟨rfl, rfl⟩
    go_wp2_with fail
    go_ret
    exact ⟨rfl, rfl⟩
end Go.Proofs.Ytddkefjcpgdomaa
