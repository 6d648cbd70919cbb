import Derived.Test.YthgpinamglpniabNForm
namespace Go.Proofs.Ythgpinamglpniab
open Go.RowKit
open TextMath (fold lo col bl trimP trimS squeeze normal sqA sqB)

theorem head_of (n : ByteArray) (a : Nat) (c : UInt8) (r : List UInt8) (h : n.data.toList.drop a = c :: r) : ∃ ha : a < n.size, n[a] = c ∧ n.data.toList.drop (a + 1) = r := by
  have ha : a < n.data.toList.length := by
    rcases Nat.lt_or_ge a n.data.toList.length with h' | h'
    · exact h'
    · rw [List.drop_eq_nil_of_le h'] at h; cases h
  rw [List.drop_eq_getElem_cons ha] at h
  injection h with h1 h2
  exact ⟨by rw [size_l] at ha; exact ha, h1, h2⟩

set_option maxHeartbeats 1000000 in
theorem nform_walk (s : ByteArray) (w : World) (hs : s.size ≤ 140737488351232) :
    Calls Try.prog 4 #[.string s] w fun e w' => e = .returned (.bool true) ∧ Below w.heap.size w w' := by
  have hL : Hid (s.data.toList.length = s.size) := size_l s
  have hnl : (S (normal s.data.toList)).size ≤ s.size := by rw [S_size, ← size_l]; exact normal_len _
  have hn : Hid ((S (normal s.data.toList)).data.toList = sqA (fold s.data.toList)) := by unfold Hid; rw [S_l, TextMath.normal_eq]
  have hcall : Hid (Calls Try.prog 10 #[.string s] w fun e w' => e = .returned (.string (S (normal s.data.toList))) ∧ Below w.heap.size w w') := normal_any s w (by omega)
  generalize S (normal s.data.toList) = n at *
  have n0 := nxt_le s.data.toList 0 (Nat.zero_le _)
  rw [hL.out] at n0
  have hst : Hid (n.data.toList.drop 0 = sqA (fold (s.data.toList.drop (nxt s.data.toList 0)))) := by unfold Hid; rw [sqA_nxt, List.drop_zero, List.drop_zero]; exact hn.out
  have hno := nxt_non s.data.toList 0
  have hno' : Hid (∀ h : nxt s.data.toList 0 < s.data.toList.length, bl s.data.toList[nxt s.data.toList 0] = false) := hno
  clear hno
  go_enter Try.func4, Try.ntmps4
  go_wp2_with (first | (go_at_call 10; refine hcall.out.mono ?_; rintro e w1 ⟨rfl, hb⟩) | (go_at_call 11; refine (next_any s 0 _ (Nat.zero_le _) (by omega)).mono ?_; rintro e w' ⟨rfl, rfl⟩))
  generalize nxt s.data.toList 0 = i0 at *
  go_loopw [4, 5] (fun t u wr => ∃ a i : Nat, i ≤ s.size ∧ a ≤ n.size ∧ t = .int .i64 a ∧ u = .int .i64 i ∧ Below w.heap.size w wr ∧ Hid (n.data.toList.drop a = sqA (fold (s.data.toList.drop i))) ∧ Hid (∀ h : i < s.data.toList.length, bl s.data.toList[i] = false)) (fun _ u _ => s.size - (intOf u).toNat)
  case atStart => exact ⟨0, i0, n0, Nat.zero_le _, rfl, rfl, hb, hst, hno'⟩
  case round =>
    clear hst hno' hb n0
    obtain ⟨a, i, hi, ha, rfl, rfl, hb, hd, hbl⟩ := hrel
    by_cases hlt : i < s.size
    · have hil : i < s.data.toList.length := by rw [hL.out]; exact hlt
      have hd1 := hd.out
      rw [walk_head _ _ hil (hbl.out hil)] at hd1
      obtain ⟨ha1, hna, hd2⟩ := head_of n a _ _ hd1
      have hcmp : ((n[a].toNat : Int) != ((lo s[i]).toNat : Int)) = false := by
        have : n[a] = lo s[i] := hna
        rw [this]; simp
      have hj1 := nxt_ge s.data.toList (i + 1)
      have hj2 := nxt_le s.data.toList (i + 1) (by omega)
      rw [hL.out] at hj2
      have hjn := nxt_non s.data.toList (i + 1)
      have w1 := walk_near s.data.toList (i + 1)
      have w2 := walk_far s.data.toList (i + 1)
      have w3 := walk_out s.data.toList (i + 1)
      rw [← hd2] at w1 w2 w3
      rw [hL.out] at w3
      have hcall2 : ∀ W, Hid (Calls Try.prog 11 #[.string s, .int .i64 ((i + 1 : Nat) : Int)] W fun e w' => e = .returned (.int .i64 (nxt s.data.toList (i + 1) : Nat)) ∧ w' = W) := fun W => next_any s (i + 1) W (by omega) (by omega)
      clear hd1 hna hd2 hd hbl
      generalize nxt s.data.toList (i + 1) = j at *
      have HJ : Hid (∀ h : j < s.data.toList.length, bl s.data.toList[j] = false) := hjn
      clear hjn
      have hge : decide ((n.size : Int) ≤ a) = false := by simp; omega
      by_cases c1 : j = i + 1
      · have HW : Hid (n.data.toList.drop (a + 1) = sqA (fold (s.data.toList.drop (i + 1)))) := w1 c1
        subst c1
        clear w1 w2 w3
        go_wp2
        go_quiet ((go_at_call 12; exact Calls.quiet_of_same (small_any _ _)))
        go_wp2_with (go_at_call 11; rw [show ((i : Int) + 1) = ((i + 1 : Nat) : Int) from by omega]; refine (hcall2 _).out.mono ?_; rintro e w' ⟨rfl, rfl⟩)
        exact ⟨⟨a + 1, i + 1, by omega, by omega, by go_num, by go_num, below_drewN hb _, HW, HJ⟩, by simp [intOf]; omega⟩
      · have c2 : i + 1 < j := by omega
        by_cases c3 : j < s.size
        · have hw2 := w2 c2 (by rw [hL.out]; exact c3)
          obtain ⟨hb1, hb2, hb3⟩ := head_of n (a + 1) _ _ hw2
          have h32 : ((n[a + 1].toNat : Int) != 32) = false := by rw [hb2]; rfl
          have HW : Hid (_ = _) := hb3
          clear w1 w2 w3 hw2 hb2 hb3
          have hge2 : ¬ ((n.size : Int) ≤ (a : Int) + 1) := by omega
          go_wp2
          go_quiet ((go_at_call 12; exact Calls.quiet_of_same (small_any _ _)))
          go_wp2_with (go_at_call 11; rw [show ((i : Int) + 1) = ((i + 1 : Nat) : Int) from by omega]; refine (hcall2 _).out.mono ?_; rintro e w' ⟨rfl, rfl⟩)
          exact ⟨⟨a + 1 + 1, j, by omega, by omega, by go_num, by go_num, below_drewN hb _, HW, HJ⟩, by simp [intOf]; omega⟩
        · have c4 : j = s.size := by omega
          have HW : Hid (n.data.toList.drop (a + 1) = sqA (fold (s.data.toList.drop j))) := w3 c2 c4
          clear w1 w2 w3
          have c5 : s.size ≤ j := by omega
          clear c4
          go_wp2
          go_quiet ((go_at_call 12; exact Calls.quiet_of_same (small_any _ _)))
          go_wp2_with (go_at_call 11; rw [show ((i : Int) + 1) = ((i + 1 : Nat) : Int) from by omega]; refine (hcall2 _).out.mono ?_; rintro e w' ⟨rfl, rfl⟩)
          exact ⟨⟨a + 1, j, by omega, by omega, by go_num, by go_num, below_drewN hb _, HW, HJ⟩, by simp [intOf]; omega⟩
    · have hd1 := hd.out
      have hdn : s.data.toList.drop i = [] := List.drop_eq_nil_of_le (by rw [hL.out]; omega)
      rw [hdn] at hd1
      have hlen := congrArg List.length hd1
      rw [List.length_drop, size_l] at hlen
      have hz : (sqA (fold ([] : List UInt8))).length = 0 := rfl
      rw [hz] at hlen
      have hae : a = n.size := by omega
      have heq : ((a : Int) == (n.size : Int)) = true := by rw [hae]; simp
      clear hae hd1 hlen hz hd hbl hdn
      go_wp2
      go_ret
      exact ⟨rfl, hb⟩
end Go.Proofs.Ythgpinamglpniab
