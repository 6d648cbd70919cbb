import Derived.Test.YthgpinamglpniaaChkLoop
import Derived.ProofKit
import Derived.OpenShut
import Derived.ShutString
import Derived.ChangeOld
import Derived.SizedLaws
namespace Go.Proofs.Ythgpinamglpniaa
open Go.RowKit
open TextMath (check)

theorem size_l (s : ByteArray) : s.data.toList.length = s.size := by show s.data.toList.length = s.data.size; simp
theorem app_l (a b : ByteArray) : (a ++ b).data.toList = a.data.toList ++ b.data.toList := by simp [ByteArray.data_append]
theorem take_l (a : ByteArray) (p : Nat) : (a.extract 0 p).data.toList = a.data.toList.take p := by rw [Lib.extract_data]; simp

theorem chkV_of {l : List UInt8} {o : Bool} {p : Nat} (h : check l = (o, p)) : chkV l = .tuple #[.int .i64 (if o = true then 0 else 10), .int .i64 (p : Nat)] := by unfold chkV; rw [h]

set_option maxHeartbeats 1000000 in
theorem join_walk (a b : ByteArray) (w : World) (ha : a.size ≤ 140737488351232) (hb : b.size ≤ 140737488351232) :
    Calls Try.prog 3 #[.string a, .string b] w fun e w' => e = .returned (.bool true) ∧ w' = w := by
  have la := size_l a
  have lb := size_l b
  obtain ⟨oa, pa, hA⟩ : ∃ o p, check a.data.toList = (o, p) := ⟨_, _, rfl⟩
  obtain ⟨ob, pb, hB⟩ : ∃ o p, check b.data.toList = (o, p) := ⟨_, _, rfl⟩
  have pA := TextMath.check_place a.data.toList
  have pB := (TextMath.check_place b.data.toList).1
  have tA := TextMath.check_take a.data.toList
  have gA := TextMath.check_app_good a.data.toList b.data.toList
  have bA := TextMath.check_app_bad a.data.toList b.data.toList
  rw [hA] at pA tA gA bA
  rw [hB] at pB gA
  simp only [la, lb] at pA pB gA bA
  rw [← take_l] at tA
  rw [← app_l] at gA bA
  have HA : Hid (chkV a.data.toList = _) := chkV_of hA
  have HB : Hid (chkV b.data.toList = _) := chkV_of hB
  have HT : Hid (chkV (a.extract 0 pa).data.toList = _) := chkV_of tA
  obtain ⟨p1, p2, p3⟩ := pA
  clear hA hB tA la lb
  cases oa
  · have hlt := p3 rfl
    clear p2 p3 gA
    by_cases h4 : pa + 4 ≤ a.size
    · have HC : Hid (chkV (a ++ b).data.toList = _) := chkV_of (bA rfl h4)
      clear bA
      cases ob
      all_goals
        go_enter Try.func3, Try.ntmps3
        go_wp2_with (first | (go_at_call 5; refine (check_any _ _ ?_).mono ?_; simp [maxLen]; omega; rintro e w' ⟨rfl, rfl⟩; first | rw [HA.out] | rw [HB.out] | rw [HC.out] | rw [HT.out]) | go_in)
        go_ret
        exact ⟨rfl, rfl⟩
    · obtain ⟨oc, pc, hC⟩ : ∃ o p, check (a ++ b).data.toList = (o, p) := ⟨_, _, rfl⟩
      have HC : Hid (chkV (a ++ b).data.toList = _) := chkV_of hC
      clear bA hC
      cases ob
      all_goals
        cases oc
        all_goals
          go_enter Try.func3, Try.ntmps3
          go_wp2_with (first | (go_at_call 5; refine (check_any _ _ ?_).mono ?_; simp [maxLen]; omega; rintro e w' ⟨rfl, rfl⟩; first | rw [HA.out] | rw [HB.out] | rw [HC.out] | rw [HT.out]) | go_in)
          go_ret
          exact ⟨rfl, rfl⟩
  · have hEq := p2 rfl
    have HC : Hid (chkV (a ++ b).data.toList = _) := chkV_of (gA rfl)
    clear p2 p3 gA bA p1
    subst hEq
    cases ob
    all_goals
      go_enter Try.func3, Try.ntmps3
      go_wp2_with (first | (go_at_call 5; refine (check_any _ _ ?_).mono ?_; simp [maxLen]; omega; rintro e w' ⟨rfl, rfl⟩; first | rw [HA.out] | rw [HB.out] | rw [HC.out] | rw [HT.out]) | go_in)
      go_ret
      exact ⟨rfl, rfl⟩
end Go.Proofs.Ythgpinamglpniaa
