import Derived.Test.YtnboimoncpphlabDoorRfM
import Derived.Test.YtnboimoncpphlabDoorAtDist
namespace Go.Proofs.YtnboimoncpphlabDoor
open Go.RowKit
open TextMath (fold lo)
set_option linter.unusedVariables false

theorem lo_isK (b : UInt8) : isK (lo b) = (decide (97 ≤ (b.toNat : Int) ∧ (b.toNat : Int) ≤ 122) || decide (65 ≤ (b.toNat : Int) ∧ (b.toNat : Int) ≤ 90) || decide (48 ≤ (b.toNat : Int) ∧ (b.toNat : Int) ≤ 57) || decide ((b.toNat : Int) = 45)) := by
  have : ∀ n : Fin 256, isK (lo (UInt8.ofNat n.val)) = (decide (97 ≤ (n.val : Int) ∧ (n.val : Int) ≤ 122) || decide (65 ≤ (n.val : Int) ∧ (n.val : Int) ≤ 90) || decide (48 ≤ (n.val : Int) ∧ (n.val : Int) ≤ 57) || decide ((n.val : Int) = 45)) := by decide +kernel
  have h := this ⟨b.toNat, b.toNat_lt⟩
  rw [UInt8.ofNat_toNat] at h
  exact h
set_option maxHeartbeats 1000000 in
theorem keyR_any (b : UInt8) (w : World) : Calls Tryd.prog 83 #[.int .u8 (b.toNat : Int)] w fun e w' => e = .returned (.bool (isK (lo b))) ∧ w' = w := by
  rw [lo_isK]
  have hb : (b.toNat : Int) < 256 := by have := b.toNat_lt; omega
  generalize (b.toNat : Int) = c at *
  by_cases h1 : (97 : Int) ≤ c
  · by_cases h2 : c ≤ 122
    · rw [decide_eq_true (⟨h1, h2⟩ : 97 ≤ c ∧ c ≤ 122)]
      go_enter Tryd.func83, Tryd.ntmps83
      go_wp2_with fail
      go_ret
      exact ⟨rfl, rfl⟩
    · have h3 : (65 : Int) ≤ c := by omega
      have h4 : ¬ c ≤ 90 := by omega
      have h5 : (48 : Int) ≤ c := by omega
      have h6 : ¬ c ≤ 57 := by omega
      have h7 : ¬ c = 45 := by omega
      have h8 : (c == 45) = false := by rw [beq_eq_false_iff_ne]; exact h7
      rw [decide_eq_false (fun q => h2 q.2 : ¬ (97 ≤ c ∧ c ≤ 122)), decide_eq_false (fun q => h4 q.2 : ¬ (65 ≤ c ∧ c ≤ 90)), decide_eq_false (fun q => h6 q.2 : ¬ (48 ≤ c ∧ c ≤ 57)), decide_eq_false h7]
      go_enter Tryd.func83, Tryd.ntmps83
      go_wp2_with fail
      go_ret
      exact ⟨rfl, rfl⟩
  · rw [decide_eq_false (fun q => h1 q.1 : ¬ (97 ≤ c ∧ c ≤ 122))]
    by_cases h3 : (65 : Int) ≤ c
    · by_cases h4 : c ≤ 90
      · rw [decide_eq_true (⟨h3, h4⟩ : 65 ≤ c ∧ c ≤ 90)]
        go_enter Tryd.func83, Tryd.ntmps83
        go_wp2_with fail
        go_ret
        exact ⟨rfl, rfl⟩
      · have h5 : (48 : Int) ≤ c := by omega
        have h6 : ¬ c ≤ 57 := by omega
        have h7 : ¬ c = 45 := by omega
        have h8 : (c == 45) = false := by rw [beq_eq_false_iff_ne]; exact h7
        rw [decide_eq_false (fun q => h4 q.2 : ¬ (65 ≤ c ∧ c ≤ 90)), decide_eq_false (fun q => h6 q.2 : ¬ (48 ≤ c ∧ c ≤ 57)), decide_eq_false h7]
        go_enter Tryd.func83, Tryd.ntmps83
        go_wp2_with fail
        go_ret
        exact ⟨rfl, rfl⟩
    · rw [decide_eq_false (fun q => h3 q.1 : ¬ (65 ≤ c ∧ c ≤ 90))]
      by_cases h5 : (48 : Int) ≤ c
      · by_cases h6 : c ≤ 57
        · rw [decide_eq_true (⟨h5, h6⟩ : 48 ≤ c ∧ c ≤ 57)]
          go_enter Tryd.func83, Tryd.ntmps83
          go_wp2_with fail
          go_ret
          exact ⟨rfl, rfl⟩
        · have h7 : ¬ c = 45 := by omega
          have h8 : (c == 45) = false := by rw [beq_eq_false_iff_ne]; exact h7
          rw [decide_eq_false (fun q => h6 q.2 : ¬ (48 ≤ c ∧ c ≤ 57)), decide_eq_false h7]
          go_enter Tryd.func83, Tryd.ntmps83
          go_wp2_with fail
          go_ret
          exact ⟨rfl, rfl⟩
      · rw [decide_eq_false (fun q => h5 q.1 : ¬ (48 ≤ c ∧ c ≤ 57))]
        by_cases h7 : c = 45
        · subst h7
          go_enter Tryd.func83, Tryd.ntmps83
          go_wp2_with fail
          go_ret
          exact ⟨rfl, rfl⟩
        · have h8 : (c == 45) = false := by rw [beq_eq_false_iff_ne]; exact h7
          rw [decide_eq_false h7]
          go_enter Tryd.func83, Tryd.ntmps83
          go_wp2_with fail
          go_ret
          exact ⟨rfl, rfl⟩
theorem getB (s : ByteArray) (k : Nat) (h : k < s.size) : s[k] = s.data.toList[k]'(by rw [size_l]; exact h) := by
  simp [ByteArray.getElem_eq_getElem_data]
set_option maxHeartbeats 1000000 in
theorem keysR_any (s : ByteArray) (w : World) (hs : s.size ≤ 4194310) : Calls Tryd.prog 68 #[.string s] w fun e w' => e = .returned (.bool (keysB (fold s.data.toList))) ∧ w' = w := by
  have hK : ∀ b : UInt8, Hid (Calls Tryd.prog 83 #[.int .u8 (b.toNat : Int)] w fun e w' => e = .returned (.bool (isK (lo b))) ∧ w' = w) := fun b => keyR_any b w
  go_enter Tryd.func68, Tryd.ntmps68
  go_wp2_with fail
  go_loopw [3] (fun iv wr => ∃ k : Nat, k ≤ s.size ∧ iv = .int .i64 (k : Int) ∧ Hid ((fold (s.data.toList.take k)).all isK = true) ∧ w = wr) (fun iv _ => s.size - (intOf iv).toNat)
  case atStart => exact ⟨0, Nat.zero_le _, rfl, rfl, rfl⟩
  case round =>
    obtain ⟨k, hk, rfl, hall, rfl⟩ := hrel
    by_cases hlt : k < s.size
    · have hl : k < s.data.toList.length := by rw [size_l]; exact hlt
      have hKk := hK s[k]
      have hst : Hid ((fold (s.data.toList.take (k + 1))).all isK = isK (lo s[k])) := by
        unfold Hid
        rw [List.take_succ_eq_append_getElem hl, getB s k hlt]
        have h0 := hall.out
        simp only [fold, List.map_append, List.map_cons, List.map_nil, List.all_append, List.all_cons, List.all_nil, Bool.and_true] at h0 ⊢
        rw [h0, Bool.true_and]
      have hfl : Hid (isK (lo s[k]) = false → keysB (fold s.data.toList) = false) := fun q => by
        unfold keysB
        have h1 : (fold s.data.toList).all isK = false := by
          rw [← List.take_append_drop (k + 1) s.data.toList]
          have h0 := hst.out
          rw [q] at h0
          simp only [fold, List.map_append, List.all_append] at h0 ⊢
          rw [h0, Bool.false_and]
        rw [h1]; rfl
      have k0 : (0 : Int) ≤ (k : Int) := Int.natCast_nonneg _
      have k1 : (k : Int) < (s.size : Int) := Int.ofNat_lt.2 hlt
      obtain ⟨x, hx⟩ : ∃ x, isK (lo s[k]) = x := ⟨_, rfl⟩
      rw [hx] at hKk hst hfl
      clear hx hK
      cases x with
      | true =>
        go_wp2_with fail
        refine hKk.out.mono ?_
        rintro e w1 ⟨rfl, hw1⟩
        subst hw1
        go_wp2_with fail
        go_roundw
        case rel => exact ⟨k + 1, hlt, by simp, hst, by trivial⟩
        case measure => simp [intOf]; omega
      | false =>
        have hfl' : Hid (keysB (fold s.data.toList) = false) := hfl.out rfl
        clear hfl
        go_wp2_with fail
        refine hKk.out.mono ?_
        rintro e w1 ⟨rfl, hw1⟩
        subst hw1
        go_wp2_with fail
        go_ret
        exact ⟨by rw [hfl'.out]; rfl, rfl⟩
    · have hke : k = s.size := by omega
      subst hke
      have hall' : Hid ((fold s.data.toList).all isK = true) := by
        have h := hall.out
        rw [List.take_of_length_le (by rw [size_l]; omega)] at h
        exact h
      have k1 : ¬ (s.size : Int) < (s.size : Int) := by omega
      by_cases h0 : s.data.toList = []
      · have e0 : s.toList.isEmpty = true := by rw [Lib.toList_data, h0]; rfl
        have hf : Hid (keysB (fold s.data.toList) = false) := by unfold Hid; rw [h0]; rfl
        clear h0
        go_wp2_with fail
        go_ret
        exact ⟨by rw [hf.out]; rfl, rfl⟩
      · have e0 : s.toList.isEmpty = false := by rw [Lib.toList_data]; simpa using h0
        have hf : Hid (keysB (fold s.data.toList) = true) := by
          unfold Hid keysB
          rw [hall'.out, Bool.true_and]
          cases h : s.data.toList with
          | nil => exact absurd h h0
          | cons a t => rfl
        clear h0
        go_wp2_with fail
        go_ret
        exact ⟨by rw [hf.out]; rfl, rfl⟩
end Go.Proofs.YtnboimoncpphlabDoor
