import Derived.Test.YtfpphhbpoaobfaaGreatDoorGRI
import Derived.Test.YtfpphhbpoaobfaaGreatDoorRdO2
import Derived.Test.YtfpphhbpoaobfaaGreatDoorGO
namespace Go.Proofs.YtfpphhbpoaobfaaGreatDoor
namespace Rd
open Go.RowKit
open LdMath
open Lr (PR RC pf chg okD dnB ChgTab GOwn GRow pV pV_len Kd PX RX rV rV_len append_gen RRow PRow said rrow_at prow_at drewN_below)
set_option linter.unusedVariables false
set_option maxRecDepth 100000

theorem sta_nil : ∀ k, sta k [] = 0
  | 0 => rfl
  | k + 1 => by rw [sta]; simp [ln1, sta_nil k]
theorem ln1_ten (l : List UInt8) (j : Nat) (h : j < l.length) (hc : l[j] = 10) : ln1 (l.drop j) = 1 := by
  rw [List.drop_eq_getElem_cons h, ln1, if_pos hc]
theorem ln1_no (l : List UInt8) (j : Nat) (h : j < l.length) (hc : ¬ l[j] = 10) : ln1 (l.drop j) = ln1 (l.drop (j + 1)) + 1 := by
  rw [List.drop_eq_getElem_cons h, ln1, if_neg hc]
theorem sta_go (l : List UInt8) (i n m : Nat) (h : m < n) : (i + ln1 (l.drop i)) + sta (n - (m + 1)) (l.drop (i + ln1 (l.drop i))) = i + sta (n - m) (l.drop i) := by
  have e : n - m = (n - (m + 1)) + 1 := by omega
  rw [e, sta, List.drop_drop, Nat.add_assoc]
set_option maxHeartbeats 4000000 in
theorem start_any (s : ByteArray) (hs : s.size ≤ 1048576) (n : Nat) (hn : 1 ≤ n) (hn2 : n ≤ 1048577) (w : World) :
    Calls Tryz.prog 13 #[.string s, .int .i64 (n : Int)] w fun e w' => e = .returned (.int .i64 ((sta (n - 1) s.data.toList : Nat) : Int)) ∧ w = w' := by
  obtain ⟨R, hR⟩ : ∃ R, sta (n - 1) s.data.toList = R := ⟨_, rfl⟩
  rw [hR]
  have hR' : Hid (sta (n - 1) s.data.toList = R) := hR
  have hn' : Hid (1 ≤ n) := hn
  have n1 : (n : Int) ≤ 1048577 := by omega
  have s1 : (s.size : Int) ≤ 1048576 := by omega
  have sl : Hid (s.data.toList.length = s.size) := size_l s
  clear hR hn hn2
  go_enter Tryz.func13, Tryz.ntmps13
  go_wp2_with fail
  go_loopw [5, 6] (fun iv nv wr => ∃ i m : Nat, i ≤ s.size ∧ Hid (m ≤ n) ∧ iv = .int .i64 (i : Int) ∧ nv = .int .i64 (m : Int) ∧ Hid (i + sta (n - m) (s.data.toList.drop i) = R) ∧ w = wr) (fun _ nv _ => n - (intOf nv).toNat)
  case atStart => exact ⟨0, 1, Nat.zero_le _, hn'.out, rfl, rfl, by unfold Hid; rw [List.drop_zero, Nat.zero_add]; exact hR'.out, rfl⟩
  case round =>
    obtain ⟨i, m, hi, hm, rfl, rfl, hQ, rfl⟩ := hrel
    have i0 : (0 : Int) ≤ (i : Int) := Int.natCast_nonneg _
    have m0 : (0 : Int) ≤ (m : Int) := Int.natCast_nonneg _
    have i1 : (i : Int) ≤ 1048576 := by omega
    have m1 : (m : Int) ≤ 1048577 := by have := hm.out; omega
    by_cases hlt : m < n
    · have d1 : (m : Int) < (n : Int) := Int.ofNat_lt.2 hlt
      have hlt' : Hid (m < n) := hlt
      by_cases hil : i < s.size
      · have d2 : (i : Int) < (s.size : Int) := Int.ofNat_lt.2 hil
        obtain ⟨E, hE⟩ : ∃ E, i + ln1 (s.data.toList.drop i) = E := ⟨_, rfl⟩
        have hE' : Hid (i + ln1 (s.data.toList.drop i) = E) := hE
        have hEs : Hid (E ≤ s.size) := by
          have h1 := ln1_le (s.data.toList.drop i)
          rw [List.length_drop, sl.out] at h1
          unfold Hid
          omega
        have hnx : Hid (E + sta (n - (m + 1)) (s.data.toList.drop E) = R) := by
          have := sta_go s.data.toList i n m hlt
          rw [hE] at this
          unfold Hid
          rw [this]
          exact hQ.out
        clear hE hlt hi hil hQ i0 i1
        go_wp2_with fail
        clear d2
        go_loopw [5] (fun jv wr2 => ∃ j : Nat, j ≤ s.size ∧ jv = .int .i64 (j : Int) ∧ Hid (j + ln1 (s.data.toList.drop j) = E) ∧ w = wr2) (fun jv _ => s.size - (intOf jv).toNat)
        case atStart => exact ⟨i, by have := hE'.out; have := hEs.out; omega, rfl, hE', rfl⟩
        case round =>
          obtain ⟨j, hj, rfl, hP, rfl⟩ := hrel
          have j0 : (0 : Int) ≤ (j : Int) := Int.natCast_nonneg _
          have j1 : (j : Int) ≤ 1048576 := by omega
          by_cases hjl : j < s.size
          · have k1 : (j : Int) < (s.size : Int) := Int.ofNat_lt.2 hjl
            obtain ⟨z, hz⟩ : ∃ z : Int, (s[j].toNat : Int) = z := ⟨_, rfl⟩
            have hjL : j < s.data.toList.length := by rw [size_l]; exact hjl
            have hcc : s.data.toList[j] = s[j] := rfl
            by_cases h10 : s[j] = 10
            · have hb : (z != 10) = false := by rw [← hz, h10]; rfl
              have hEj : Hid (E = j + 1) := by
                have h1 := hP.out
                rw [ln1_ten _ j hjL (by rw [hcc]; exact h10)] at h1
                exact h1.symm
              clear h10 hcc hjL hP hj
              go_wp2_with fail
              go_roundw
              case rel => exact ⟨j + 1, m + 1, hjl, hlt'.out, by simp, by simp, by have := hnx.out; rw [hEj.out] at this; exact this, trivial⟩
              case measure => have := hlt'.out; simp [intOf]; omega
            · have hb : (z != 10) = true := by
                rw [← hz, bne_iff_ne]
                intro e
                exact h10 (UInt8.toNat_inj.1 (by show _ = 10; omega))
              have hnj : Hid (j + 1 + ln1 (s.data.toList.drop (j + 1)) = E) := by
                have h1 := hP.out
                rw [ln1_no _ j hjL (by rw [hcc]; exact h10)] at h1
                unfold Hid
                omega
              have hjl' : Hid (j < s.size) := hjl
              clear h10 hcc hjL hP hj
              go_wp2_with fail
              go_roundw
              case rel => exact ⟨j + 1, hjl'.out, by simp, hnj, trivial⟩
              case measure => have := hjl'.out; simp [intOf]; omega
          · have e : j = s.size := by omega
            have k1 : ¬ (j : Int) < (s.size : Int) := by omega
            have hEj : Hid (E = j) := by
              have h1 := hP.out
              rw [List.drop_of_length_le (by rw [size_l]; omega)] at h1
              exact h1.symm
            have hj' : Hid (j ≤ s.size) := hj
            clear hjl e hP hj
            go_wp2_with fail
            go_roundw
            case rel => exact ⟨j, m + 1, hj'.out, hlt'.out, by simp, by simp, by have := hnx.out; rw [hEj.out] at this; exact this, trivial⟩
            case measure => have := hlt'.out; simp [intOf]; omega
      · have d2 : ¬ (i : Int) < (s.size : Int) := by omega
        have hfin : Hid ((i : Int) = (R : Int)) := by
          have h1 := hQ.out
          rw [List.drop_of_length_le (by rw [size_l]; omega), sta_nil] at h1
          unfold Hid
          omega
        clear hQ hi hil hlt
        go_wp2_with fail
        go_ret
        exact ⟨by first | rfl | (rw [hfin.out]; rfl), rfl⟩
    · have e : m = n := by have := hm.out; omega
      have d1 : ¬ (m : Int) < (n : Int) := by omega
      have hfin : Hid ((i : Int) = (R : Int)) := by
        have h1 := hQ.out
        rw [e, Nat.sub_self, sta] at h1
        unfold Hid
        omega
      clear hQ hlt e hm hi
      go_wp2_with fail
      go_ret
      exact ⟨by first | rfl | (rw [hfin.out]; rfl), rfl⟩
end Rd
end Go.Proofs.YtfpphhbpoaobfaaGreatDoor
