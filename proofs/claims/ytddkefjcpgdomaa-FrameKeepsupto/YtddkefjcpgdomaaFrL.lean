import Derived.Test.YtddkefjcpgdomaaFr2
import Derived.Deep.DeepCutAuto
namespace Go.Proofs.Ytddkefjcpgdomaa
open Go.RowKit
open FrMath (Hdr lb bd within Out ends cut Cut)

set_option maxRecDepth 100000 in
set_option maxHeartbeats 400000 in
theorem look_long1 (lim : Int) (s : ByteArray) (w : World) (q0 : 0 < s.size) (q1 : 1 < s.size) (p2 : (1 : Int) < (s.size : Int)) (d0 : ((s.size : Int) == 0) = false) (d1 : ((s[0].toNat : Int) != 48) = false) (d2 : decide ((s.size : Int) < 2) = false)
    (g0 : (s[1].toNat : Int) = 128 + ((1 : Nat) : Int)) (g1 : (s.size : Int) ≤ 140737488355328) :
    Calls Try.prog 23 #[.int .i64 lim, .string s] w fun r w' => r = .returned (hV (within lim (2 + 1 - s.data.toList.length) (2 + 1 + bd s.data.toList 1))) ∧ Below w.heap.size w w' := by
  rw [size_l]
  replace g0 : (s[1].toNat : Int) = 129 := g0
  have hB := fun W => body1 s W
  obtain ⟨v, hv⟩ : ∃ v, bd s.data.toList 1 = v := ⟨_, rfl⟩
  rw [hv] at hB ⊢
  have hv4 : v < 4294967296 := hv ▸ FrMath.bd_lt _ _ (by omega)
  obtain ⟨V, hV⟩ : ∃ V, 2 + 1 + v = V := ⟨_, rfl⟩
  have x2 : wrap64 (3 + (v : Int)) = (V : Int) := by unfold wrap64; omega
  rw [hV]
  by_cases hs : s.size < 3
  · obtain ⟨m, hm⟩ : ∃ m, 2 + 1 - s.size = m := ⟨_, rfl⟩
    have x1 : wrap64 (3 - (s.size : Int)) = (m : Int) := by unfold wrap64; omega
    have m0 : 0 < m := by omega
    rw [hm]
    clear hv hv4 hV hm hs g1
    go_enter Try.func23, Try.ntmps23
    go_upto_region 14 with fail
    go_wp2_with fail
    all_goals first
      | (exfalso; omega)
      | skip
    refine (hB _).mono ?_
    rintro r w1 ⟨rfl, rfl⟩
    go_wp2_with fail
    refine (within_any lim m V _).mono ?_
    rintro r w1 ⟨rfl, hb1⟩
    obtain ⟨f0, f1, f2, c0, c1, c2⟩ := res_free hb1
    have HB : Below w.heap.size w w1 := ((Below.refl _ _).alloc (Nat.le_refl _) _).trans (hb1.mono (by simp))
    clear hb1
    go_wp2_with fail
    refine bodyPost_ret_by (v := hV (within lim m V)) (by simp [results, Try.results23, go_sem, c0, c1, c2]) rfl ⟨rfl, ?_⟩
    refine Below.setCell (Below.setCell (Below.setCell HB ?_ _) ?_ _) ?_ _ <;> exact Nat.le_refl _
  · have hm : 2 + 1 - s.size = 0 := by omega
    obtain ⟨Z, hZ⟩ : ∃ Z : Int, 3 - (s.size : Int) = Z := ⟨_, rfl⟩
    have x1 : wrap64 (3 - (s.size : Int)) = Z := by unfold wrap64; omega
    have m0 : Z ≤ 0 := by omega
    rw [hm]
    clear hv hv4 hV hm hs g1 hZ
    go_enter Try.func23, Try.ntmps23
    go_upto_region 14 with fail
    go_wp2_with fail
    all_goals first
      | (exfalso; omega)
      | skip
    refine (hB _).mono ?_
    rintro r w1 ⟨rfl, rfl⟩
    go_wp2_with fail
    refine (within_any lim 0 V _).mono ?_
    rintro r w1 ⟨rfl, hb1⟩
    obtain ⟨f0, f1, f2, c0, c1, c2⟩ := res_free hb1
    have HB : Below w.heap.size w w1 := ((Below.refl _ _).alloc (Nat.le_refl _) _).trans (hb1.mono (by simp))
    clear hb1
    go_wp2_with fail
    refine bodyPost_ret_by (v := hV (within lim 0 V)) (by simp [results, Try.results23, go_sem, c0, c1, c2]) rfl ⟨rfl, ?_⟩
    refine Below.setCell (Below.setCell (Below.setCell HB ?_ _) ?_ _) ?_ _ <;> exact Nat.le_refl _

set_option maxRecDepth 100000 in
set_option maxHeartbeats 400000 in
theorem look_long2 (lim : Int) (s : ByteArray) (w : World) (q0 : 0 < s.size) (q1 : 1 < s.size) (p2 : (1 : Int) < (s.size : Int)) (d0 : ((s.size : Int) == 0) = false) (d1 : ((s[0].toNat : Int) != 48) = false) (d2 : decide ((s.size : Int) < 2) = false)
    (g0 : (s[1].toNat : Int) = 128 + ((2 : Nat) : Int)) (g1 : (s.size : Int) ≤ 140737488355328) :
    Calls Try.prog 23 #[.int .i64 lim, .string s] w fun r w' => r = .returned (hV (within lim (2 + 2 - s.data.toList.length) (2 + 2 + bd s.data.toList 2))) ∧ Below w.heap.size w w' := by
  rw [size_l]
  replace g0 : (s[1].toNat : Int) = 130 := g0
  have hB := fun W => body2 s W
  obtain ⟨v, hv⟩ : ∃ v, bd s.data.toList 2 = v := ⟨_, rfl⟩
  rw [hv] at hB ⊢
  have hv4 : v < 4294967296 := hv ▸ FrMath.bd_lt _ _ (by omega)
  obtain ⟨V, hV⟩ : ∃ V, 2 + 2 + v = V := ⟨_, rfl⟩
  have x2 : wrap64 (4 + (v : Int)) = (V : Int) := by unfold wrap64; omega
  rw [hV]
  by_cases hs : s.size < 4
  · obtain ⟨m, hm⟩ : ∃ m, 2 + 2 - s.size = m := ⟨_, rfl⟩
    have x1 : wrap64 (4 - (s.size : Int)) = (m : Int) := by unfold wrap64; omega
    have m0 : 0 < m := by omega
    rw [hm]
    clear hv hv4 hV hm hs g1
    go_enter Try.func23, Try.ntmps23
    go_upto_region 14 with fail
    go_wp2_with fail
    all_goals first
      | (exfalso; omega)
      | skip
    refine (hB _).mono ?_
    rintro r w1 ⟨rfl, rfl⟩
    go_wp2_with fail
    refine (within_any lim m V _).mono ?_
    rintro r w1 ⟨rfl, hb1⟩
    obtain ⟨f0, f1, f2, c0, c1, c2⟩ := res_free hb1
    have HB : Below w.heap.size w w1 := ((Below.refl _ _).alloc (Nat.le_refl _) _).trans (hb1.mono (by simp))
    clear hb1
    go_wp2_with fail
    refine bodyPost_ret_by (v := hV (within lim m V)) (by simp [results, Try.results23, go_sem, c0, c1, c2]) rfl ⟨rfl, ?_⟩
    refine Below.setCell (Below.setCell (Below.setCell HB ?_ _) ?_ _) ?_ _ <;> exact Nat.le_refl _
  · have hm : 2 + 2 - s.size = 0 := by omega
    obtain ⟨Z, hZ⟩ : ∃ Z : Int, 4 - (s.size : Int) = Z := ⟨_, rfl⟩
    have x1 : wrap64 (4 - (s.size : Int)) = Z := by unfold wrap64; omega
    have m0 : Z ≤ 0 := by omega
    rw [hm]
    clear hv hv4 hV hm hs g1 hZ
    go_enter Try.func23, Try.ntmps23
    go_upto_region 14 with fail
    go_wp2_with fail
    all_goals first
      | (exfalso; omega)
      | skip
    refine (hB _).mono ?_
    rintro r w1 ⟨rfl, rfl⟩
    go_wp2_with fail
    refine (within_any lim 0 V _).mono ?_
    rintro r w1 ⟨rfl, hb1⟩
    obtain ⟨f0, f1, f2, c0, c1, c2⟩ := res_free hb1
    have HB : Below w.heap.size w w1 := ((Below.refl _ _).alloc (Nat.le_refl _) _).trans (hb1.mono (by simp))
    clear hb1
    go_wp2_with fail
    refine bodyPost_ret_by (v := hV (within lim 0 V)) (by simp [results, Try.results23, go_sem, c0, c1, c2]) rfl ⟨rfl, ?_⟩
    refine Below.setCell (Below.setCell (Below.setCell HB ?_ _) ?_ _) ?_ _ <;> exact Nat.le_refl _

set_option maxRecDepth 100000 in
set_option maxHeartbeats 400000 in
theorem look_long3 (lim : Int) (s : ByteArray) (w : World) (q0 : 0 < s.size) (q1 : 1 < s.size) (p2 : (1 : Int) < (s.size : Int)) (d0 : ((s.size : Int) == 0) = false) (d1 : ((s[0].toNat : Int) != 48) = false) (d2 : decide ((s.size : Int) < 2) = false)
    (g0 : (s[1].toNat : Int) = 128 + ((3 : Nat) : Int)) (g1 : (s.size : Int) ≤ 140737488355328) :
    Calls Try.prog 23 #[.int .i64 lim, .string s] w fun r w' => r = .returned (hV (within lim (2 + 3 - s.data.toList.length) (2 + 3 + bd s.data.toList 3))) ∧ Below w.heap.size w w' := by
  rw [size_l]
  replace g0 : (s[1].toNat : Int) = 131 := g0
  have hB := fun W => body3 s W
  obtain ⟨v, hv⟩ : ∃ v, bd s.data.toList 3 = v := ⟨_, rfl⟩
  rw [hv] at hB ⊢
  have hv4 : v < 4294967296 := hv ▸ FrMath.bd_lt _ _ (by omega)
  obtain ⟨V, hV⟩ : ∃ V, 2 + 3 + v = V := ⟨_, rfl⟩
  have x2 : wrap64 (5 + (v : Int)) = (V : Int) := by unfold wrap64; omega
  rw [hV]
  by_cases hs : s.size < 5
  · obtain ⟨m, hm⟩ : ∃ m, 2 + 3 - s.size = m := ⟨_, rfl⟩
    have x1 : wrap64 (5 - (s.size : Int)) = (m : Int) := by unfold wrap64; omega
    have m0 : 0 < m := by omega
    rw [hm]
    clear hv hv4 hV hm hs g1
    go_enter Try.func23, Try.ntmps23
    go_upto_region 14 with fail
    go_wp2_with fail
    all_goals first
      | (exfalso; omega)
      | skip
    refine (hB _).mono ?_
    rintro r w1 ⟨rfl, rfl⟩
    go_wp2_with fail
    refine (within_any lim m V _).mono ?_
    rintro r w1 ⟨rfl, hb1⟩
    obtain ⟨f0, f1, f2, c0, c1, c2⟩ := res_free hb1
    have HB : Below w.heap.size w w1 := ((Below.refl _ _).alloc (Nat.le_refl _) _).trans (hb1.mono (by simp))
    clear hb1
    go_wp2_with fail
    refine bodyPost_ret_by (v := hV (within lim m V)) (by simp [results, Try.results23, go_sem, c0, c1, c2]) rfl ⟨rfl, ?_⟩
    refine Below.setCell (Below.setCell (Below.setCell HB ?_ _) ?_ _) ?_ _ <;> exact Nat.le_refl _
  · have hm : 2 + 3 - s.size = 0 := by omega
    obtain ⟨Z, hZ⟩ : ∃ Z : Int, 5 - (s.size : Int) = Z := ⟨_, rfl⟩
    have x1 : wrap64 (5 - (s.size : Int)) = Z := by unfold wrap64; omega
    have m0 : Z ≤ 0 := by omega
    rw [hm]
    clear hv hv4 hV hm hs g1 hZ
    go_enter Try.func23, Try.ntmps23
    go_upto_region 14 with fail
    go_wp2_with fail
    all_goals first
      | (exfalso; omega)
      | skip
    refine (hB _).mono ?_
    rintro r w1 ⟨rfl, rfl⟩
    go_wp2_with fail
    refine (within_any lim 0 V _).mono ?_
    rintro r w1 ⟨rfl, hb1⟩
    obtain ⟨f0, f1, f2, c0, c1, c2⟩ := res_free hb1
    have HB : Below w.heap.size w w1 := ((Below.refl _ _).alloc (Nat.le_refl _) _).trans (hb1.mono (by simp))
    clear hb1
    go_wp2_with fail
    refine bodyPost_ret_by (v := hV (within lim 0 V)) (by simp [results, Try.results23, go_sem, c0, c1, c2]) rfl ⟨rfl, ?_⟩
    refine Below.setCell (Below.setCell (Below.setCell HB ?_ _) ?_ _) ?_ _ <;> exact Nat.le_refl _

set_option maxRecDepth 100000 in
set_option maxHeartbeats 400000 in
theorem look_long4 (lim : Int) (s : ByteArray) (w : World) (q0 : 0 < s.size) (q1 : 1 < s.size) (p2 : (1 : Int) < (s.size : Int)) (d0 : ((s.size : Int) == 0) = false) (d1 : ((s[0].toNat : Int) != 48) = false) (d2 : decide ((s.size : Int) < 2) = false)
    (g0 : (s[1].toNat : Int) = 128 + ((4 : Nat) : Int)) (g1 : (s.size : Int) ≤ 140737488355328) :
    Calls Try.prog 23 #[.int .i64 lim, .string s] w fun r w' => r = .returned (hV (within lim (2 + 4 - s.data.toList.length) (2 + 4 + bd s.data.toList 4))) ∧ Below w.heap.size w w' := by
  rw [size_l]
  replace g0 : (s[1].toNat : Int) = 132 := g0
  have hB := fun W => body4 s W
  obtain ⟨v, hv⟩ : ∃ v, bd s.data.toList 4 = v := ⟨_, rfl⟩
  rw [hv] at hB ⊢
  have hv4 : v < 4294967296 := hv ▸ FrMath.bd_lt _ _ (by omega)
  obtain ⟨V, hV⟩ : ∃ V, 2 + 4 + v = V := ⟨_, rfl⟩
  have x2 : wrap64 (6 + (v : Int)) = (V : Int) := by unfold wrap64; omega
  rw [hV]
  by_cases hs : s.size < 6
  · obtain ⟨m, hm⟩ : ∃ m, 2 + 4 - s.size = m := ⟨_, rfl⟩
    have x1 : wrap64 (6 - (s.size : Int)) = (m : Int) := by unfold wrap64; omega
    have m0 : 0 < m := by omega
    rw [hm]
    clear hv hv4 hV hm hs g1
    go_enter Try.func23, Try.ntmps23
    go_upto_region 14 with fail
    go_wp2_with fail
    all_goals first
      | (exfalso; omega)
      | skip
    refine (hB _).mono ?_
    rintro r w1 ⟨rfl, rfl⟩
    go_wp2_with fail
    refine (within_any lim m V _).mono ?_
    rintro r w1 ⟨rfl, hb1⟩
    obtain ⟨f0, f1, f2, c0, c1, c2⟩ := res_free hb1
    have HB : Below w.heap.size w w1 := ((Below.refl _ _).alloc (Nat.le_refl _) _).trans (hb1.mono (by simp))
    clear hb1
    go_wp2_with fail
    refine bodyPost_ret_by (v := hV (within lim m V)) (by simp [results, Try.results23, go_sem, c0, c1, c2]) rfl ⟨rfl, ?_⟩
    refine Below.setCell (Below.setCell (Below.setCell HB ?_ _) ?_ _) ?_ _ <;> exact Nat.le_refl _
  · have hm : 2 + 4 - s.size = 0 := by omega
    obtain ⟨Z, hZ⟩ : ∃ Z : Int, 6 - (s.size : Int) = Z := ⟨_, rfl⟩
    have x1 : wrap64 (6 - (s.size : Int)) = Z := by unfold wrap64; omega
    have m0 : Z ≤ 0 := by omega
    rw [hm]
    clear hv hv4 hV hm hs g1 hZ
    go_enter Try.func23, Try.ntmps23
    go_upto_region 14 with fail
    go_wp2_with fail
    all_goals first
      | (exfalso; omega)
      | skip
    refine (hB _).mono ?_
    rintro r w1 ⟨rfl, rfl⟩
    go_wp2_with fail
    refine (within_any lim 0 V _).mono ?_
    rintro r w1 ⟨rfl, hb1⟩
    obtain ⟨f0, f1, f2, c0, c1, c2⟩ := res_free hb1
    have HB : Below w.heap.size w w1 := ((Below.refl _ _).alloc (Nat.le_refl _) _).trans (hb1.mono (by simp))
    clear hb1
    go_wp2_with fail
    refine bodyPost_ret_by (v := hV (within lim 0 V)) (by simp [results, Try.results23, go_sem, c0, c1, c2]) rfl ⟨rfl, ?_⟩
    refine Below.setCell (Below.setCell (Below.setCell HB ?_ _) ?_ _) ?_ _ <;> exact Nat.le_refl _

end Go.Proofs.Ytddkefjcpgdomaa
