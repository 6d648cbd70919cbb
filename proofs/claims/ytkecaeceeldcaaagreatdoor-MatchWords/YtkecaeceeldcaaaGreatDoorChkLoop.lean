import Derived.Test.YtkecaeceeldcaaaGreatDoorChkWalks
namespace Go.Proofs.YtkecaeceeldcaaaGreatDoor
open Go.RowKit
open TextMath (ld wi seqLen check u)

/-- What Check answers of a text. -/
def chkV (l : List UInt8) : Value := .tuple #[.int .i64 (if (check l).1 = true then 0 else 10), .int .i64 ((check l).2 : Nat)]

theorem chkV_bad (l : List UInt8) (k : Nat) (hk : k < l.length) (hc : check l = ((check (l.drop k)).1, k + (check (l.drop k)).2)) (h0 : seqLen (l.drop k) = 0) :
    Ending.returned (.tuple #[.int .i64 10, .int .i64 (k : Nat)]) = .returned (chkV l) := by
  rw [TextMath.check_bad (l.drop k) (by simp; omega) h0] at hc
  unfold chkV; rw [hc]; simp
theorem chkV_end (l : List UInt8) (k : Nat) (hk : ¬ k < l.length) (hc : check l = ((check (l.drop k)).1, k + (check (l.drop k)).2)) :
    Ending.returned (.tuple #[.int .i64 0, .int .i64 (k : Nat)]) = .returned (chkV l) := by
  rw [List.drop_eq_nil_of_le (by omega), TextMath.check_nil] at hc
  unfold chkV; rw [hc]; simp
theorem chk_step (l : List UInt8) (k : Nat) (hc : check l = ((check (l.drop k)).1, k + (check (l.drop k)).2)) (h0 : seqLen (l.drop k) ≠ 0) :
    check l = ((check (l.drop (k + seqLen (l.drop k)))).1, k + seqLen (l.drop k) + (check (l.drop (k + seqLen (l.drop k)))).2) := by
  rw [TextMath.check_good (l.drop k) h0, List.drop_drop] at hc
  rw [hc]; simp; omega

set_option maxHeartbeats 400000 in
theorem check_any (s : ByteArray) (w : World) (hm : s.size ≤ maxLen) :
    Calls Tryz.prog 72 #[.string s] w fun e w' => e = .returned (chkV s.data.toList) ∧ w' = w := by
  have hm' := hm
  unfold maxLen at hm
  have hL : Hid (s.data.toList.length = s.size) := by show s.data.toList.length = s.data.size; simp
  go_enter Tryz.func72, Tryz.ntmps72
  go_wp2
  go_loop [4] (fun i => ∃ k : Nat, k ≤ s.size ∧ i = .int .i64 k ∧ Hid (check s.data.toList = ((check (s.data.toList.drop k)).1, k + (check (s.data.toList.drop k)).2))) (fun i => s.size - (intOf i).toNat)
  case atStart => exact ⟨0, Nat.zero_le _, rfl, by unfold Hid; simp⟩
  case round =>
    obtain ⟨k, hk, rfl, hc⟩ := hrel
    by_cases hlt : k < s.size
    · have hq := TextMath.seqLen_le (s.data.toList.drop k)
      have hq' : seqLen (s.data.toList.drop k) + k ≤ s.size := by rw [List.length_drop, hL.out] at hq; omega
      clear hq
      generalize hn : seqLen (s.data.toList.drop k) = n at *
      have Hn : Hid (seqLen (s.data.toList.drop k) = n) := hn
      clear hn
      by_cases hn0 : n = 0
      · subst hn0
        go_wp2_with (go_at_call 87; refine (sequence_any _ _ ?_ ?_).mono ?_; simp; omega; simp [maxLen]; omega; rintro e w' ⟨rfl, rfl⟩; rw [drop_l, Hn.out])
        go_ret2
        exact ⟨chkV_bad _ k (by rw [hL.out]; exact hlt) hc.out Hn.out, rfl⟩
      · have hz : (((n : Nat) : Int) == 0) = false := by simp; omega
        go_wp2_with (go_at_call 87; refine (sequence_any _ _ ?_ ?_).mono ?_; simp; omega; simp [maxLen]; omega; rintro e w' ⟨rfl, rfl⟩; rw [drop_l, Hn.out])
        go_round
        case rel => exact ⟨k + n, by omega, by go_num, by have h := chk_step _ k hc.out (by rw [Hn.out]; exact hn0); rw [Hn.out] at h; exact h⟩
        case measure => simp [intOf]; omega
    · go_wp2
      go_ret2
      exact ⟨chkV_end _ k (by rw [hL.out]; exact hlt) hc.out, rfl⟩
end Go.Proofs.YtkecaeceeldcaaaGreatDoor
