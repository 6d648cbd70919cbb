import Derived.Test.YtihjlcclaoofhaaDoorPyA
import Derived.Test.YtihjlcclaoofhaaDoorBytes
import Derived.Test.YtihjlcclaoofhaaDoorDuOwn
import Derived.Deep.RegionHeld3
import Derived.BigQuiet
namespace Go.Proofs.YtihjlcclaoofhaaDoor
namespace Pa
open Go.RowKit
open Ke (mst PR)
open Du (PRow DRow PX sd sd_len drow_at prow_at pV pV_len)
set_option linter.unusedVariables false
set_option linter.unusedSimpArgs false
set_option maxRecDepth 100000

theorem sub1 {i n : Nat} (h : i < n) (hn : n ≤ 1073741824) : wrap64 ((n : Int) - 1) = ((n - 1 : Nat) : Int) := by unfold wrap64; omega
set_option maxHeartbeats 8000000 in
theorem must_any (v : ByteArray) (i : Nat) (w : World) (hi : i < v.size) (hv : v.size ≤ 1073741824) :
    Calls Tryd.prog 11 #[.string v, .int .i64 (i : Int)] w fun e w' => e = .returned (.bool (mu v.data.toList i)) ∧ w' = w := by
  have hL : v.data.toList.length = v.size := size_l v
  have hg : v.data.toList.getD i 0 = v[i] := by
    rw [List.getD_eq_getElem?_getD, List.getElem?_eq_getElem (by rw [hL]; exact hi)]
    rfl
  have i0 : (0 : Int) ≤ (i : Int) := Int.natCast_nonneg _
  have i1 : (i : Int) < (v.size : Int) := Int.ofNat_lt.2 hi
  have ib : (v.size : Int) ≤ 1073741824 := by omega
  obtain ⟨a, ha⟩ : ∃ a, v[i] = a := ⟨_, rfl⟩
  have hmu : mu v.data.toList i = (a == 0 || mst v.size i a) := by unfold mu; rw [hg, ha, hL]
  rw [hmu]
  have heq : ∀ (n : Nat), n < 256 → ∀ x : Bool, decide (a = UInt8.ofNat n) = x → ((a.toNat : Int) == (n : Int)) = x := fun n hn x hx => by
    rw [← hx, Bool.eq_iff_iff, beq_iff_eq, decide_eq_true_iff]
    constructor
    · intro h; exact UInt8.toNat_inj.1 (by rw [UInt8.toNat_ofNat']; omega)
    · rintro rfl; rw [UInt8.toNat_ofNat']; omega
  clear hL hg hmu
  by_cases h0 : a = 0
  · skip
    have f0 : ((a.toNat : Int) == 0) = true := heq 0 (by decide) _ (by subst h0; decide)
    have f92 : ((a.toNat : Int) == 92) = false := heq 92 (by decide) _ (by subst h0; decide)
    have f34 : ((a.toNat : Int) == 34) = false := heq 34 (by decide) _ (by subst h0; decide)
    have f43 : ((a.toNat : Int) == 43) = false := heq 43 (by decide) _ (by subst h0; decide)
    have f44 : ((a.toNat : Int) == 44) = false := heq 44 (by decide) _ (by subst h0; decide)
    have f59 : ((a.toNat : Int) == 59) = false := heq 59 (by decide) _ (by subst h0; decide)
    have f60 : ((a.toNat : Int) == 60) = false := heq 60 (by decide) _ (by subst h0; decide)
    have f62 : ((a.toNat : Int) == 62) = false := heq 62 (by decide) _ (by subst h0; decide)
    have f32 : ((a.toNat : Int) == 32) = false := heq 32 (by decide) _ (by subst h0; decide)
    have f35 : ((a.toNat : Int) == 35) = false := heq 35 (by decide) _ (by subst h0; decide)
    have hr : (a == 0 || mst v.size i a) = true := by subst h0; rfl
    rw [hr]
    clear heq hr h0
    go_enter Tryd.func11, Tryd.ntmps11
    go_wp2_with fail
    go_ret
    exact ⟨rfl, rfl⟩
  by_cases h92 : a = 92
  · skip
    have f0 : ((a.toNat : Int) == 0) = false := heq 0 (by decide) _ (by subst h92; decide)
    have f92 : ((a.toNat : Int) == 92) = true := heq 92 (by decide) _ (by subst h92; decide)
    have f34 : ((a.toNat : Int) == 34) = false := heq 34 (by decide) _ (by subst h92; decide)
    have f43 : ((a.toNat : Int) == 43) = false := heq 43 (by decide) _ (by subst h92; decide)
    have f44 : ((a.toNat : Int) == 44) = false := heq 44 (by decide) _ (by subst h92; decide)
    have f59 : ((a.toNat : Int) == 59) = false := heq 59 (by decide) _ (by subst h92; decide)
    have f60 : ((a.toNat : Int) == 60) = false := heq 60 (by decide) _ (by subst h92; decide)
    have f62 : ((a.toNat : Int) == 62) = false := heq 62 (by decide) _ (by subst h92; decide)
    have f32 : ((a.toNat : Int) == 32) = false := heq 32 (by decide) _ (by subst h92; decide)
    have f35 : ((a.toNat : Int) == 35) = false := heq 35 (by decide) _ (by subst h92; decide)
    have hr : (a == 0 || mst v.size i a) = true := by subst h92; rfl
    rw [hr]
    clear heq hr h92
    go_enter Tryd.func11, Tryd.ntmps11
    go_wp2_with fail
    go_ret
    exact ⟨rfl, rfl⟩
  by_cases h34 : a = 34
  · skip
    have f0 : ((a.toNat : Int) == 0) = false := heq 0 (by decide) _ (by subst h34; decide)
    have f92 : ((a.toNat : Int) == 92) = false := heq 92 (by decide) _ (by subst h34; decide)
    have f34 : ((a.toNat : Int) == 34) = true := heq 34 (by decide) _ (by subst h34; decide)
    have f43 : ((a.toNat : Int) == 43) = false := heq 43 (by decide) _ (by subst h34; decide)
    have f44 : ((a.toNat : Int) == 44) = false := heq 44 (by decide) _ (by subst h34; decide)
    have f59 : ((a.toNat : Int) == 59) = false := heq 59 (by decide) _ (by subst h34; decide)
    have f60 : ((a.toNat : Int) == 60) = false := heq 60 (by decide) _ (by subst h34; decide)
    have f62 : ((a.toNat : Int) == 62) = false := heq 62 (by decide) _ (by subst h34; decide)
    have f32 : ((a.toNat : Int) == 32) = false := heq 32 (by decide) _ (by subst h34; decide)
    have f35 : ((a.toNat : Int) == 35) = false := heq 35 (by decide) _ (by subst h34; decide)
    have hr : (a == 0 || mst v.size i a) = true := by subst h34; rfl
    rw [hr]
    clear heq hr h34
    go_enter Tryd.func11, Tryd.ntmps11
    go_wp2_with fail
    go_ret
    exact ⟨rfl, rfl⟩
  by_cases h43 : a = 43
  · skip
    have f0 : ((a.toNat : Int) == 0) = false := heq 0 (by decide) _ (by subst h43; decide)
    have f92 : ((a.toNat : Int) == 92) = false := heq 92 (by decide) _ (by subst h43; decide)
    have f34 : ((a.toNat : Int) == 34) = false := heq 34 (by decide) _ (by subst h43; decide)
    have f43 : ((a.toNat : Int) == 43) = true := heq 43 (by decide) _ (by subst h43; decide)
    have f44 : ((a.toNat : Int) == 44) = false := heq 44 (by decide) _ (by subst h43; decide)
    have f59 : ((a.toNat : Int) == 59) = false := heq 59 (by decide) _ (by subst h43; decide)
    have f60 : ((a.toNat : Int) == 60) = false := heq 60 (by decide) _ (by subst h43; decide)
    have f62 : ((a.toNat : Int) == 62) = false := heq 62 (by decide) _ (by subst h43; decide)
    have f32 : ((a.toNat : Int) == 32) = false := heq 32 (by decide) _ (by subst h43; decide)
    have f35 : ((a.toNat : Int) == 35) = false := heq 35 (by decide) _ (by subst h43; decide)
    have hr : (a == 0 || mst v.size i a) = true := by subst h43; rfl
    rw [hr]
    clear heq hr h43
    go_enter Tryd.func11, Tryd.ntmps11
    go_wp2_with fail
    go_ret
    exact ⟨rfl, rfl⟩
  by_cases h44 : a = 44
  · skip
    have f0 : ((a.toNat : Int) == 0) = false := heq 0 (by decide) _ (by subst h44; decide)
    have f92 : ((a.toNat : Int) == 92) = false := heq 92 (by decide) _ (by subst h44; decide)
    have f34 : ((a.toNat : Int) == 34) = false := heq 34 (by decide) _ (by subst h44; decide)
    have f43 : ((a.toNat : Int) == 43) = false := heq 43 (by decide) _ (by subst h44; decide)
    have f44 : ((a.toNat : Int) == 44) = true := heq 44 (by decide) _ (by subst h44; decide)
    have f59 : ((a.toNat : Int) == 59) = false := heq 59 (by decide) _ (by subst h44; decide)
    have f60 : ((a.toNat : Int) == 60) = false := heq 60 (by decide) _ (by subst h44; decide)
    have f62 : ((a.toNat : Int) == 62) = false := heq 62 (by decide) _ (by subst h44; decide)
    have f32 : ((a.toNat : Int) == 32) = false := heq 32 (by decide) _ (by subst h44; decide)
    have f35 : ((a.toNat : Int) == 35) = false := heq 35 (by decide) _ (by subst h44; decide)
    have hr : (a == 0 || mst v.size i a) = true := by subst h44; rfl
    rw [hr]
    clear heq hr h44
    go_enter Tryd.func11, Tryd.ntmps11
    go_wp2_with fail
    go_ret
    exact ⟨rfl, rfl⟩
  by_cases h59 : a = 59
  · skip
    have f0 : ((a.toNat : Int) == 0) = false := heq 0 (by decide) _ (by subst h59; decide)
    have f92 : ((a.toNat : Int) == 92) = false := heq 92 (by decide) _ (by subst h59; decide)
    have f34 : ((a.toNat : Int) == 34) = false := heq 34 (by decide) _ (by subst h59; decide)
    have f43 : ((a.toNat : Int) == 43) = false := heq 43 (by decide) _ (by subst h59; decide)
    have f44 : ((a.toNat : Int) == 44) = false := heq 44 (by decide) _ (by subst h59; decide)
    have f59 : ((a.toNat : Int) == 59) = true := heq 59 (by decide) _ (by subst h59; decide)
    have f60 : ((a.toNat : Int) == 60) = false := heq 60 (by decide) _ (by subst h59; decide)
    have f62 : ((a.toNat : Int) == 62) = false := heq 62 (by decide) _ (by subst h59; decide)
    have f32 : ((a.toNat : Int) == 32) = false := heq 32 (by decide) _ (by subst h59; decide)
    have f35 : ((a.toNat : Int) == 35) = false := heq 35 (by decide) _ (by subst h59; decide)
    have hr : (a == 0 || mst v.size i a) = true := by subst h59; rfl
    rw [hr]
    clear heq hr h59
    go_enter Tryd.func11, Tryd.ntmps11
    go_wp2_with fail
    go_ret
    exact ⟨rfl, rfl⟩
  by_cases h60 : a = 60
  · skip
    have f0 : ((a.toNat : Int) == 0) = false := heq 0 (by decide) _ (by subst h60; decide)
    have f92 : ((a.toNat : Int) == 92) = false := heq 92 (by decide) _ (by subst h60; decide)
    have f34 : ((a.toNat : Int) == 34) = false := heq 34 (by decide) _ (by subst h60; decide)
    have f43 : ((a.toNat : Int) == 43) = false := heq 43 (by decide) _ (by subst h60; decide)
    have f44 : ((a.toNat : Int) == 44) = false := heq 44 (by decide) _ (by subst h60; decide)
    have f59 : ((a.toNat : Int) == 59) = false := heq 59 (by decide) _ (by subst h60; decide)
    have f60 : ((a.toNat : Int) == 60) = true := heq 60 (by decide) _ (by subst h60; decide)
    have f62 : ((a.toNat : Int) == 62) = false := heq 62 (by decide) _ (by subst h60; decide)
    have f32 : ((a.toNat : Int) == 32) = false := heq 32 (by decide) _ (by subst h60; decide)
    have f35 : ((a.toNat : Int) == 35) = false := heq 35 (by decide) _ (by subst h60; decide)
    have hr : (a == 0 || mst v.size i a) = true := by subst h60; rfl
    rw [hr]
    clear heq hr h60
    go_enter Tryd.func11, Tryd.ntmps11
    go_wp2_with fail
    go_ret
    exact ⟨rfl, rfl⟩
  by_cases h62 : a = 62
  · skip
    have f0 : ((a.toNat : Int) == 0) = false := heq 0 (by decide) _ (by subst h62; decide)
    have f92 : ((a.toNat : Int) == 92) = false := heq 92 (by decide) _ (by subst h62; decide)
    have f34 : ((a.toNat : Int) == 34) = false := heq 34 (by decide) _ (by subst h62; decide)
    have f43 : ((a.toNat : Int) == 43) = false := heq 43 (by decide) _ (by subst h62; decide)
    have f44 : ((a.toNat : Int) == 44) = false := heq 44 (by decide) _ (by subst h62; decide)
    have f59 : ((a.toNat : Int) == 59) = false := heq 59 (by decide) _ (by subst h62; decide)
    have f60 : ((a.toNat : Int) == 60) = false := heq 60 (by decide) _ (by subst h62; decide)
    have f62 : ((a.toNat : Int) == 62) = true := heq 62 (by decide) _ (by subst h62; decide)
    have f32 : ((a.toNat : Int) == 32) = false := heq 32 (by decide) _ (by subst h62; decide)
    have f35 : ((a.toNat : Int) == 35) = false := heq 35 (by decide) _ (by subst h62; decide)
    have hr : (a == 0 || mst v.size i a) = true := by subst h62; rfl
    rw [hr]
    clear heq hr h62
    go_enter Tryd.func11, Tryd.ntmps11
    go_wp2_with fail
    go_ret
    exact ⟨rfl, rfl⟩
  by_cases h32 : a = 32
  · skip
    have f0 : ((a.toNat : Int) == 0) = false := heq 0 (by decide) _ (by subst h32; decide)
    have f92 : ((a.toNat : Int) == 92) = false := heq 92 (by decide) _ (by subst h32; decide)
    have f34 : ((a.toNat : Int) == 34) = false := heq 34 (by decide) _ (by subst h32; decide)
    have f43 : ((a.toNat : Int) == 43) = false := heq 43 (by decide) _ (by subst h32; decide)
    have f44 : ((a.toNat : Int) == 44) = false := heq 44 (by decide) _ (by subst h32; decide)
    have f59 : ((a.toNat : Int) == 59) = false := heq 59 (by decide) _ (by subst h32; decide)
    have f60 : ((a.toNat : Int) == 60) = false := heq 60 (by decide) _ (by subst h32; decide)
    have f62 : ((a.toNat : Int) == 62) = false := heq 62 (by decide) _ (by subst h32; decide)
    have f32 : ((a.toNat : Int) == 32) = true := heq 32 (by decide) _ (by subst h32; decide)
    have f35 : ((a.toNat : Int) == 35) = false := heq 35 (by decide) _ (by subst h32; decide)
    by_cases hz : i = 0
    · have g1 : ((i : Int) == 0) = true := by rw [hz]; rfl
      have hr : (a == 0 || mst v.size i a) = true := by subst h32; subst hz; simp [mst]
      rw [hr]
      clear heq hr h32 hz
      go_enter Tryd.func11, Tryd.ntmps11
      go_wp2_with fail
      go_ret
      exact ⟨rfl, rfl⟩
    · have g1 : ((i : Int) == 0) = false := by rw [beq_eq_false_iff_ne]; omega
      obtain ⟨z, hzz⟩ : ∃ z : Nat, v.size - 1 = z := ⟨_, rfl⟩
      have hw : (v.size : Int) - 1 = (z : Int) := by omega
      by_cases hl : i = z
      · have g2 : ((i : Int) == (z : Int)) = true := by rw [hl]; simp
        have hr : (a == 0 || mst v.size i a) = true := by
          have : i + 1 = v.size := by omega
          subst h32; unfold mst; simp [this]
        rw [hr]
        have hl' : Hid (i = z) := hl
        clear heq hr h32 hzz hl
        go_enter Tryd.func11, Tryd.ntmps11
        go_wp2_with fail
        go_ret
        exact ⟨rfl, rfl⟩
      · have g2 : ((i : Int) == (z : Int)) = false := by rw [beq_eq_false_iff_ne]; omega
        have hr : (a == 0 || mst v.size i a) = false := by
          have h9 : i + 1 ≠ v.size := by omega
          subst h32; unfold mst; simp [h9, hz]
        rw [hr]
        clear heq hr h32 hzz
        go_enter Tryd.func11, Tryd.ntmps11
        go_wp2_with fail
        go_ret
        exact ⟨rfl, rfl⟩
  by_cases h35 : a = 35
  · skip
    have f0 : ((a.toNat : Int) == 0) = false := heq 0 (by decide) _ (by subst h35; decide)
    have f92 : ((a.toNat : Int) == 92) = false := heq 92 (by decide) _ (by subst h35; decide)
    have f34 : ((a.toNat : Int) == 34) = false := heq 34 (by decide) _ (by subst h35; decide)
    have f43 : ((a.toNat : Int) == 43) = false := heq 43 (by decide) _ (by subst h35; decide)
    have f44 : ((a.toNat : Int) == 44) = false := heq 44 (by decide) _ (by subst h35; decide)
    have f59 : ((a.toNat : Int) == 59) = false := heq 59 (by decide) _ (by subst h35; decide)
    have f60 : ((a.toNat : Int) == 60) = false := heq 60 (by decide) _ (by subst h35; decide)
    have f62 : ((a.toNat : Int) == 62) = false := heq 62 (by decide) _ (by subst h35; decide)
    have f32 : ((a.toNat : Int) == 32) = false := heq 32 (by decide) _ (by subst h35; decide)
    have f35 : ((a.toNat : Int) == 35) = true := heq 35 (by decide) _ (by subst h35; decide)
    by_cases hz : i = 0
    · have g1 : ((i : Int) == 0) = true := by rw [hz]; rfl
      have hr : (a == 0 || mst v.size i a) = true := by subst h35; subst hz; simp [mst]
      rw [hr]
      clear heq hr h35 hz
      go_enter Tryd.func11, Tryd.ntmps11
      go_wp2_with fail
      go_ret
      exact ⟨rfl, rfl⟩
    · have g1 : ((i : Int) == 0) = false := by rw [beq_eq_false_iff_ne]; omega
      have hr : (a == 0 || mst v.size i a) = false := by subst h35; unfold mst; simp [hz]
      rw [hr]
      clear heq hr h35
      go_enter Tryd.func11, Tryd.ntmps11
      go_wp2_with fail
      go_ret
      exact ⟨rfl, rfl⟩
  have f0 : ((a.toNat : Int) == 0) = false := heq 0 (by decide) _ (by rw [decide_eq_false_iff_not]; exact h0)
  have f92 : ((a.toNat : Int) == 92) = false := heq 92 (by decide) _ (by rw [decide_eq_false_iff_not]; exact h92)
  have f34 : ((a.toNat : Int) == 34) = false := heq 34 (by decide) _ (by rw [decide_eq_false_iff_not]; exact h34)
  have f43 : ((a.toNat : Int) == 43) = false := heq 43 (by decide) _ (by rw [decide_eq_false_iff_not]; exact h43)
  have f44 : ((a.toNat : Int) == 44) = false := heq 44 (by decide) _ (by rw [decide_eq_false_iff_not]; exact h44)
  have f59 : ((a.toNat : Int) == 59) = false := heq 59 (by decide) _ (by rw [decide_eq_false_iff_not]; exact h59)
  have f60 : ((a.toNat : Int) == 60) = false := heq 60 (by decide) _ (by rw [decide_eq_false_iff_not]; exact h60)
  have f62 : ((a.toNat : Int) == 62) = false := heq 62 (by decide) _ (by rw [decide_eq_false_iff_not]; exact h62)
  have f32 : ((a.toNat : Int) == 32) = false := heq 32 (by decide) _ (by rw [decide_eq_false_iff_not]; exact h32)
  have f35 : ((a.toNat : Int) == 35) = false := heq 35 (by decide) _ (by rw [decide_eq_false_iff_not]; exact h35)
  have hr : (a == 0 || mst v.size i a) = false := by
    unfold mst
    simp [h0, h92, h34, h43, h44, h59, h60, h62, h32, h35]
  rw [hr]
  clear heq hr
  go_enter Tryd.func11, Tryd.ntmps11
  go_wp2_with fail
  go_ret
  exact ⟨rfl, rfl⟩
end Pa
end Go.Proofs.YtihjlcclaoofhaaDoor

namespace Go.Proofs.YtihjlcclaoofhaaDoor
namespace Pa
open Go.RowKit
open Ke (mst PR)
open Du (PRow DRow PX sd sd_len drow_at prow_at pV pV_len)
set_option linter.unusedVariables false
set_option linter.unusedSimpArgs false
set_option maxRecDepth 100000

theorem rS_take (r : List PR) (j : Nat) (h : j < r.length) : rS (r.take (j + 1)) = rS (r.take j) + pW r[j] := by
  unfold rS
  rw [List.take_succ_eq_append_getElem h, List.map_append, List.sum_append]
  simp
theorem rS_le (r : List PR) (j : Nat) (h : j < r.length) : rS (r.take j) + pW r[j] ≤ rS r := by
  have e : rS r = rS (r.take (j + 1)) + rS (r.drop (j + 1)) := by unfold rS; rw [← List.sum_append, ← List.map_append, List.take_append_drop]
  rw [rS_take r j h] at e
  omega
theorem dS_take (D : List (List PR)) (i : Nat) (h : i < D.length) : dS (D.take (i + 1)) = dS (D.take i) + rS D[i] := by
  unfold dS
  rw [List.take_succ_eq_append_getElem h, List.map_append, List.sum_append]
  simp
theorem dS_le (D : List (List PR)) (i : Nat) (h : i < D.length) : dS (D.take i) + rS D[i] ≤ dS D := by
  have e : dS D = dS (D.take (i + 1)) + dS (D.drop (i + 1)) := by unfold dS; rw [← List.sum_append, ← List.map_append, List.take_append_drop]
  rw [dS_take D i h] at e
  omega
theorem exS_mono (l : List UInt8) : ∀ (m k : Nat), k ≤ m → exS l k ≤ exS l m
  | 0, k, h => by have : k = 0 := by omega
                  subst this; exact Nat.le_refl _
  | m + 1, k, h => by
    by_cases e : k = m + 1
    · subst e; exact Nat.le_refl _
    · have := exS_mono l m k (by omega)
      rw [exS_succ]
      omega
theorem rS_len (r : List PR) : r.length ≤ rS r := by
  unfold rS
  induction r with
  | nil => simp
  | cons p r ih => rw [List.map_cons, List.sum_cons, List.length_cons]; have : 1 ≤ pW p := by unfold pW; omega
                   omega
set_option maxHeartbeats 8000000 in
theorem printed_any (sa : Option Addr) (sc n : Nat) (L : List PX) (w : World) (hn : L.length = n) (hr : DRow w sa L) (hB : dS (sd L) ≤ 1073741824) (hnb : n ≤ 1073741824) :
    Calls Tryd.prog 5 #[.slice sa n sc] w fun e w' => e = .returned (.int .i64 ((dS (sd L) - 1 : Nat) : Int)) ∧ w' = w := by
  have nb : (n : Int) ≤ 1073741824 := by omega
  have hn' : Hid (L.length = n) := hn
  have hr' : Hid (DRow w sa L) := hr
  have hB' : Hid (dS (sd L) ≤ 1073741824) := hB
  clear hn hr hB hnb
  go_enter Tryd.func5, Tryd.ntmps5
  go_wp2_with fail
  go_loop [3, 4] (fun nv iv => ∃ (i z : Nat), i ≤ n ∧ iv = .int .i64 (i : Int) ∧ nv = .int .i64 (z : Int) ∧ Hid (z = dS ((sd L).take i))) (fun _ iv => n - (intOf iv).toNat)
  case atStart => exact ⟨0, 0, Nat.zero_le _, rfl, rfl, by simp [Hid, dS]⟩
  case round =>
    obtain ⟨i, z, hi, rfl, rfl, hz⟩ := hrel
    have i0 : (0 : Int) ≤ (i : Int) := Int.natCast_nonneg _
    by_cases hlt : i < n
    · have i1 : (i : Int) < (n : Int) := Int.ofNat_lt.2 hlt
      have hiL : i < L.length := by rw [hn'.out]; exact hlt
      obtain ⟨b, off, rfl, c1⟩ := drow_at hr'.out i hiL
      have hpr : Hid (PRow w L[i].1 L[i].2.2) := (hr'.out.2 _ (List.getElem_mem hiL)).1
      have hsi : (sd L)[i]'(by rw [sd_len]; exact hiL) = L[i].2.2 := by simp [sd]
      have hle := dS_le (sd L) i (by rw [sd_len]; exact hiL)
      have htk := dS_take (sd L) i (by rw [sd_len]; exact hiL)
      rw [hsi] at hle htk
      have hbs : Hid (z + rS L[i].2.2 ≤ 1073741824) := by unfold Hid; rw [hz.out]; have := hB'.out; omega
      have hnx : Hid (z + rS L[i].2.2 = dS ((sd L).take (i + 1))) := by unfold Hid; rw [hz.out]; exact htk.symm
      have hlt' : Hid (i < n) := hlt
      generalize L[i] = r at *
      obtain ⟨pa, pc, ps⟩ := r
      dsimp only at c1 hpr hbs hnx
      obtain ⟨m, hm⟩ : ∃ m, ps.length = m := ⟨_, rfl⟩
      have hm' : Hid (ps.length = m) := hm
      rw [hm] at c1
      have mb : (m : Int) ≤ 1073741824 := by have := rS_len ps; have := hbs.out; omega
      clear hle htk hsi hz hm hiL hlt hi
      go_wp2_with fail
      go_loop [3, 5, 6, 7, 8] (fun nv jv _ _ _ => ∃ (j y : Nat), j ≤ m ∧ jv = .int .i64 (j : Int) ∧ nv = .int .i64 (y : Int) ∧ Hid (y = z + rS (ps.take j))) (fun _ jv _ _ _ => m - (intOf jv).toNat)
      case atStart => exact ⟨0, z, Nat.zero_le _, rfl, rfl, by simp [Hid, rS]⟩
      case round =>
        obtain ⟨j, y, hj, rfl, rfl, hy⟩ := hrel
        have j0 : (0 : Int) ≤ (j : Int) := Int.natCast_nonneg _
        by_cases hjm : j < m
        · have j1 : (j : Int) < (m : Int) := Int.ofNat_lt.2 hjm
          have hjP : j < ps.length := by rw [hm'.out]; exact hjm
          obtain ⟨pb, po, rfl, c3, c4⟩ := prow_at hpr.out j hjP
          have hle := rS_le ps j hjP
          have htk := rS_take ps j hjP
          have hjm' : Hid (j < m) := hjm
          generalize ps[j] = q at *
          obtain ⟨t, v⟩ := q
          dsimp only at c3 c4 hle htk
          have hts : (S t).size = t.length := S_size t
          have hvs : (S v).size = v.length := S_size v
          have hvl : Hid ((S v).data.toList = v) := S_l v
          have hbd : Hid (y + pW (t, v) ≤ 1073741824) := by unfold Hid; rw [hy.out]; have := hbs.out; omega
          have hny : Hid (y + pW (t, v) = z + rS (ps.take (j + 1))) := by unfold Hid; rw [hy.out, htk]; omega
          have hpw : pW (t, v) = t.length + 1 + v.length + 1 + exS v v.length := rfl
          obtain ⟨st, hst⟩ : ∃ st, S t = st := ⟨_, rfl⟩
          obtain ⟨sv', hsv⟩ : ∃ sv, S v = sv := ⟨_, rfl⟩
          rw [hst] at c3 hts
          rw [hsv] at c4 hvs hvl
          have y0 : (0 : Int) ≤ (y : Int) := Int.natCast_nonneg _
          have s0 : (0 : Int) ≤ (st.size : Int) := Int.natCast_nonneg _
          have v0 : (0 : Int) ≤ (sv'.size : Int) := Int.natCast_nonneg _
          have yb : (y : Int) ≤ 1073741824 := by have := hbd.out; omega
          have sb : (st.size : Int) ≤ 1073741824 := by have := hbd.out; omega
          have vb : (sv'.size : Int) ≤ 1073741824 := by have := hbd.out; omega
          obtain ⟨x, hx⟩ : ∃ x : Nat, y + t.length + 1 + v.length + 1 = x := ⟨_, rfl⟩
          have hxi : Hid ((y : Int) + (st.size : Int) + 1 + (sv'.size : Int) + 1 = (x : Int)) := by unfold Hid; omega
          have hxe : Hid (x + exS v sv'.size = y + pW (t, v) ∧ sv'.size = v.length) := by unfold Hid; rw [hpw, hvs]; exact ⟨by omega, rfl⟩
          have hMu : Hid (∀ k, k < sv'.size → ∀ W, Calls Tryd.prog 11 #[.string sv', .int .i64 (k : Int)] W fun e w' => e = .returned (.bool (mu v k)) ∧ w' = W) := fun k hk W => by
            have h1 := must_any sv' k W hk (by omega)
            rw [hvl.out] at h1
            exact h1
          clear hle htk hts hvs hpw hst hsv hx hjP hjm hj hy
          go_wp2_with fail
          rw [hxi.out]
          go_loop [3, 7, 8] (fun nv kv _ => ∃ (k u : Nat), k ≤ sv'.size ∧ kv = .int .i64 (k : Int) ∧ nv = .int .i64 (u : Int) ∧ Hid (u = x + exS v k)) (fun _ kv _ => sv'.size - (intOf kv).toNat)
          case atStart => exact ⟨0, x, Nat.zero_le _, rfl, rfl, by simp [Hid, exS]⟩
          case round =>
            obtain ⟨k, u, hk, rfl, rfl, hu⟩ := hrel
            have k0 : (0 : Int) ≤ (k : Int) := Int.natCast_nonneg _
            by_cases hks : k < sv'.size
            · have k1 : (k : Int) < (sv'.size : Int) := Int.ofNat_lt.2 hks
              have hc := hMu.out k hks
              have hks' : Hid (k < sv'.size) := hks
              have hbu : (u : Int) ≤ 1073741824 := by
                have := exS_mono v sv'.size k (by omega)
                have := hu.out; have := hxe.out.1; have := hbd.out; omega
              have u0 : (0 : Int) ≤ (u : Int) := Int.natCast_nonneg _
              have hgd : Hid (v.getD k 0 = sv'[k]) := by
                unfold Hid
                rw [← hvl.out, List.getD_eq_getElem?_getD, List.getElem?_eq_getElem (by simpa using hks)]
                simp
                rfl
              have hsc := exS_succ v k
              obtain ⟨ca, ha⟩ : ∃ ca, sv'[k] = ca := ⟨_, rfl⟩
              rw [ha] at hgd
              by_cases hmu : mu v k = true
              · rw [hmu] at hc
                by_cases h0 : ca = 0
                · have hn1 : Hid (u + 2 = x + exS v (k + 1)) := by
                    unfold Hid
                    rw [hsc, hu.out]
                    have : ex v k = 2 := by unfold ex; rw [if_pos hmu, hgd.out, if_pos h0]
                    omega
                  have hb0 : ((sv'[k].toNat : Int) == 0) = true := by rw [ha]; subst h0; rfl
                  clear hu hsc hgd hmu hk h0 ha
                  clear hbd hxe hvl hMu
                  go_wp2_with fail
                  refine (hc _).mono ?_
                  rintro e w' ⟨rfl, rfl⟩
                  simp -failIfUnchanged only []
                  go_wp2_with fail
                  go_round
                  case rel => exact ⟨k + 1, u + 2, hks'.out, by go_num, by go_num, hn1⟩
                  case measure => have := hks'.out; simp [intOf]; omega
                · have hn1 : Hid (u + 1 = x + exS v (k + 1)) := by
                    unfold Hid
                    rw [hsc, hu.out]
                    have : ex v k = 1 := by unfold ex; rw [if_pos hmu, hgd.out, if_neg h0]
                    omega
                  have hb0 : ((sv'[k].toNat : Int) == 0) = false := by rw [ha, beq_eq_false_iff_ne]; exact fun h => h0 (UInt8.toNat_inj.1 (by show ca.toNat = 0; omega))
                  clear hu hsc hgd hmu hk h0 ha
                  clear hbd hxe hvl hMu
                  go_wp2_with fail
                  refine (hc _).mono ?_
                  rintro e w' ⟨rfl, rfl⟩
                  simp -failIfUnchanged only []
                  go_wp2_with fail
                  go_round
                  case rel => exact ⟨k + 1, u + 1, hks'.out, by go_num, by go_num, hn1⟩
                  case measure => have := hks'.out; simp [intOf]; omega
              · have hmf : mu v k = false := by cases hq : mu v k with
                  | true => exact absurd hq hmu
                  | false => rfl
                rw [hmf] at hc
                have hn1 : Hid (u = x + exS v (k + 1)) := by
                  unfold Hid
                  rw [hsc, hu.out]
                  have : ex v k = 0 := by unfold ex; rw [if_neg hmu]
                  omega
                clear hu hsc hgd hmu hk
                clear hbd hxe hvl hMu
                go_wp2_with fail
                refine (hc _).mono ?_
                rintro e w' ⟨rfl, rfl⟩
                simp -failIfUnchanged only []
                go_wp2_with fail
                go_round
                case rel => exact ⟨k + 1, u, hks'.out, by go_num, rfl, hn1⟩
                case measure => have := hks'.out; simp [intOf]; omega
            · have e : sv'.size = k := by omega
              subst e
              have k1 : ¬ (sv'.size : Int) < (sv'.size : Int) := by omega
              have hfin : Hid (u = z + rS (ps.take (j + 1))) := by
                unfold Hid
                rw [hu.out, ← hny.out, ← hxe.out.1]
              clear hu hk hks
              clear hbd hxe hvl hMu hny
              go_wp2_with fail
              go_round
              case rel => exact ⟨j + 1, u, hjm'.out, by go_num, rfl, hfin⟩
              case measure => have := hjm'.out; simp [intOf]; omega
        · have e : m = j := by omega
          subst e
          have j1 : ¬ (m : Int) < (m : Int) := by omega
          have hfin : Hid (y = dS ((sd L).take (i + 1))) := by
            unfold Hid
            rw [hy.out, List.take_of_length_le (by rw [hm'.out]; exact Nat.le_refl _), hnx.out]
          clear hy hj hjm
          go_wp2_with fail
          go_round
          case rel => exact ⟨i + 1, y, hlt'.out, by go_num, rfl, hfin⟩
          case measure => have := hlt'.out; simp [intOf]; omega
    · have e : n = i := by omega
      subst e
      have i1 : ¬ (n : Int) < (n : Int) := by omega
      have hze : Hid (z = dS (sd L)) := by unfold Hid; rw [hz.out, List.take_of_length_le (by rw [sd_len, hn'.out]; exact Nat.le_refl _)]
      have zb : (z : Int) ≤ 1073741824 := by have := hze.out; have := hB'.out; omega
      have z0 : (0 : Int) ≤ (z : Int) := Int.natCast_nonneg _
      by_cases hz0 : z = 0
      · have g1 : ¬ (0 : Int) < (z : Int) := by omega
        have hfin : Hid ((z : Int) = ((dS (sd L) - 1 : Nat) : Int)) := by unfold Hid; rw [← hze.out, hz0]
        clear hz hz0 hlt hi
        go_wp2_with fail
        go_ret
        exact ⟨ret_int (by exact hfin.out), rfl⟩
      · have g1 : (0 : Int) < (z : Int) := by omega
        have hfin : Hid ((z : Int) - 1 = ((dS (sd L) - 1 : Nat) : Int)) := by unfold Hid; rw [← hze.out]; omega
        clear hz hz0 hlt hi
        go_wp2_with fail
        go_ret
        exact ⟨ret_int (by exact hfin.out), rfl⟩
end Pa
end Go.Proofs.YtihjlcclaoofhaaDoor
