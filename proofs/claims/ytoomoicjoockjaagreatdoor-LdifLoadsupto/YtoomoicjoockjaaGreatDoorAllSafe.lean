import Derived.Test.YtoomoicjoockjaaGreatDoorSafe
namespace Go.Proofs.YtoomoicjoockjaaGreatDoor
open Go.RowKit
set_option linter.unusedVariables false

/-- A byte that may not stand there, as the reference asks it. -/
theorem okB_ref (b : UInt8) : okB b = !(((b.toNat : Int) == 0) || (decide ((b.toNat : Int) > 127)) || ((b.toNat : Int) == 10) || ((b.toNat : Int) == 13)) := by
  have h := b.toNat_lt
  unfold okB
  rw [Bool.eq_iff_iff]
  simp
  omega

set_option maxHeartbeats 1000000 in
theorem rSafe_any (s : ByteArray) (w : World) (hm : s.size ≤ 9223372036854775807) :
    Calls Tryz.prog 43 #[.string s] w fun e w' => e = .returned (.bool (safe s.data.toList)) ∧ w' = w := by
  have hL : Hid (s.data.toList.length = s.size) := size_l s
  obtain ⟨R, hR⟩ : ∃ R, safe s.data.toList = R := ⟨_, rfl⟩
  have hR' : Hid (safe s.data.toList = R) := hR
  rw [hR]
  clear hR
  go_enter Tryz.func43, Tryz.ntmps43
  go_wp2_with fail
  go_loopw [3] (fun iv wr => ∃ k : Nat, k ≤ s.size ∧ iv = .int .i64 (k : Int) ∧ Hid (safe (s.data.toList.take k) = true) ∧ w = wr) (fun iv _ => s.size - (intOf iv).toNat)
  case atStart => exact ⟨0, Nat.zero_le _, rfl, by unfold Hid; rfl, rfl⟩
  case round =>
    obtain ⟨k, hk, rfl, hs, rfl⟩ := hrel
    by_cases hlt : k < s.size
    · have hsn := safe_snoc s k hlt
      rw [hs.out, Bool.true_and] at hsn
      have k1 : (k : Int) < (s.size : Int) := Int.ofNat_lt.2 hlt
      have k0 : (0 : Int) ≤ (k : Int) := Int.natCast_nonneg _
      have hc256 : s[k].toNat < 256 := s[k].toNat_lt
      have hf : Hid (safe (s.data.toList.take (k + 1)) = false → R = false) := fun h => by rw [← hR'.out]; exact safe_false s k h
      by_cases hok : okB s[k] = true
      · have ho := hok
        rw [okB_ref] at ho
        simp only [Bool.not_eq_true', Bool.or_eq_false_iff] at ho
        obtain ⟨⟨⟨o1, o2⟩, o3⟩, o4⟩ := ho
        rw [hok, Bool.true_and] at hsn
        have o2' : ¬ ((s[k].toNat : Int) > 127) := by simpa using o2
        by_cases hk0 : k = 0
        · subst hk0
          rw [show ((0 : Nat) : Int) = 0 from rfl]
          by_cases hmk : mkB s[0] = true
          · have hbad : Hid (R = false) := hf.out (by rw [hsn, hmk]; simp)
            have hm3 : (((s[0].toNat : Int) == 32) = true) ∨ (((s[0].toNat : Int) == 32) = false ∧ ((s[0].toNat : Int) == 58) = true) ∨ (((s[0].toNat : Int) == 32) = false ∧ ((s[0].toNat : Int) == 58) = false ∧ ((s[0].toNat : Int) == 60) = true) := by
              unfold mkB at hmk
              simp at hmk ⊢
              omega
            clear hsn hf hok o2 hmk hs k1 k0
            rcases hm3 with m1 | ⟨m1, m2⟩ | ⟨m1, m2, m3⟩
            all_goals
              go_wp2_with fail
              go_ret
              exact ⟨by rw [hbad.out]; rfl, rfl⟩
          · have hm3 : ((s[0].toNat : Int) == 32) = false ∧ ((s[0].toNat : Int) == 58) = false ∧ ((s[0].toNat : Int) == 60) = false := by
              unfold mkB at hmk
              simp at hmk ⊢
              omega
            obtain ⟨m1, m2, m3⟩ := hm3
            have hs' : Hid (safe (s.data.toList.take (0 + 1)) = true) := by unfold Hid; rw [hsn]; simp [hmk]
            clear hsn hf hok o2 hmk hs k1 k0
            go_wp2_with fail
            go_roundw
            case rel => exact ⟨1, hlt, by simp, hs', by trivial⟩
            case measure => simp [intOf]; omega
        · have e0 : ((k : Int) == 0) = false := by rw [beq_eq_false_iff_ne]; omega
          have hs' : Hid (safe (s.data.toList.take (k + 1)) = true) := by unfold Hid; rw [hsn]; simp [hk0]
          clear hsn hf hok o2 hs hk0
          go_wp2_with fail
          go_roundw
          case rel => exact ⟨k + 1, hlt, by simp, hs', by trivial⟩
          case measure => simp [intOf]; omega
      · have hbad : Hid (R = false) := hf.out (by rw [hsn]; simp [hok])
        have ho : (((s[k].toNat : Int) == 0) = true) ∨ (((s[k].toNat : Int) == 0) = false ∧ ((s[k].toNat : Int) > 127)) ∨ (((s[k].toNat : Int) == 0) = false ∧ ¬ ((s[k].toNat : Int) > 127) ∧ ((s[k].toNat : Int) == 10) = true) ∨ (((s[k].toNat : Int) == 0) = false ∧ ¬ ((s[k].toNat : Int) > 127) ∧ ((s[k].toNat : Int) == 10) = false ∧ ((s[k].toNat : Int) == 13) = true) := by
          rw [okB_ref] at hok
          simp at hok ⊢
          omega
        clear hsn hf hok hs
        rcases ho with m1 | ⟨m1, m2⟩ | ⟨m1, m2, m3⟩ | ⟨m1, m2, m3, m4⟩
        all_goals
          go_wp2_with fail
          go_ret
          exact ⟨by rw [hbad.out]; rfl, rfl⟩
    · have hres : Hid (R = true) := by
        unfold Hid
        rw [← hR'.out, ← hs.out, List.take_of_length_le (by rw [hL.out]; omega)]
      have k1 : ¬ (k : Int) < (s.size : Int) := by omega
      clear hs
      go_wp2_with fail
      go_ret
      exact ⟨by rw [hres.out]; rfl, rfl⟩

end Go.Proofs.YtoomoicjoockjaaGreatDoor
