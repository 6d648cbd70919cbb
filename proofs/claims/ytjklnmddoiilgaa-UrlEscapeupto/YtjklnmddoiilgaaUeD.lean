import Derived.Test.YtjklnmddoiilgaaUeC
namespace Go.Proofs.Ytjklnmddoiilgaa
open Go.RowKit
open EscMath
open TextMath (wo)

theorem sg_nat (b : UInt8) : sg.contains b = (b.toNat == 45 || b.toNat == 46 || b.toNat == 95 || b.toNat == 126 || b.toNat == 33 || b.toNat == 36 || b.toNat == 38 || b.toNat == 39 || b.toNat == 40 || b.toNat == 41 || b.toNat == 42 || b.toNat == 43 || b.toNat == 59 || b.toNat == 61 || b.toNat == 58 || b.toNat == 64 || b.toNat == 47) := by
  have hp : ∀ n : Fin 256, sg.contains (UInt8.ofNat n.1) = ((UInt8.ofNat n.1).toNat == 45 || (UInt8.ofNat n.1).toNat == 46 || (UInt8.ofNat n.1).toNat == 95 || (UInt8.ofNat n.1).toNat == 126 || (UInt8.ofNat n.1).toNat == 33 || (UInt8.ofNat n.1).toNat == 36 || (UInt8.ofNat n.1).toNat == 38 || (UInt8.ofNat n.1).toNat == 39 || (UInt8.ofNat n.1).toNat == 40 || (UInt8.ofNat n.1).toNat == 41 || (UInt8.ofNat n.1).toNat == 42 || (UInt8.ofNat n.1).toNat == 43 || (UInt8.ofNat n.1).toNat == 59 || (UInt8.ofNat n.1).toNat == 61 || (UInt8.ofNat n.1).toNat == 58 || (UInt8.ofNat n.1).toNat == 64 || (UInt8.ofNat n.1).toNat == 47) := by decide +kernel
  have e : UInt8.ofNat b.toNat = b := by simp
  have := hp ⟨b.toNat, b.toNat_lt⟩
  simp only [e] at this
  exact this
theorem lQuiet_any (b : UInt8) (w : World) : Calls Try.prog 7 #[.int .u8 (b.toNat : Int)] w fun e w' => e = .returned (.bool (qt b)) ∧ w = w' := by
  have h1 : Hid (Calls Try.prog 15 #[.int .u8 (b.toNat : Int)] w fun e w' => e = .returned (.bool (lt b.toNat || di b.toNat)) ∧ w = w') := lQuiet0_any b w
  have hb := b.toNat_lt
  unfold qt
  rw [sg_nat]
  generalize (lt b.toNat || di b.toNat) = x at *
  generalize b.toNat = n at *
  cases x with
  | true =>
    go_enter Try.func7, Try.ntmps7
    go_wp2_with fail
    refine h1.out.mono ?_
    rintro e W1 ⟨rfl, rfl⟩
    go_wp2_with fail
    go_ret
    exact ⟨rfl, rfl⟩
  | false =>
    go_enter Try.func7, Try.ntmps7
    go_wp2_with fail
    refine h1.out.mono ?_
    rintro e W1 ⟨rfl, rfl⟩
    go_wp2_with fail
    all_goals go_ret
    all_goals refine ⟨ret_bool ?_, rfl⟩
    all_goals (simp only [beq_iff_eq, beq_eq_false_iff_ne, ne_eq] at *; rw [Bool.eq_iff_iff]; simp; try omega)
theorem rLetter_any (b : UInt8) (w : World) : Calls Try.prog 28 #[.int .u8 (b.toNat : Int)] w fun e w' => e = .returned (.bool (lt b.toNat)) ∧ w = w' := by
  have hb := b.toNat_lt
  unfold lt
  generalize b.toNat = n at *
  go_enter Try.func28, Try.ntmps28
  go_wp2
  all_goals go_ret
  all_goals refine ⟨ret_bool ?_, rfl⟩
  all_goals (rw [Bool.eq_iff_iff]; simp; try omega)
theorem rDigit_any (b : UInt8) (w : World) : Calls Try.prog 24 #[.int .u8 (b.toNat : Int)] w fun e w' => e = .returned (.bool (di b.toNat)) ∧ w = w' := by
  have hb := b.toNat_lt
  unfold di
  generalize b.toNat = n at *
  go_enter Try.func24, Try.ntmps24
  go_wp2
  all_goals go_ret
  all_goals refine ⟨ret_bool ?_, rfl⟩
  all_goals (rw [Bool.eq_iff_iff]; simp; try omega)
theorem has_at (s : ByteArray) (k : Nat) (h : k < s.size) : s.data.toList.contains s[k] = true := by
  rw [List.contains_iff_mem]
  show s.data[k] ∈ s.data.toList
  simp
theorem has_no (s : ByteArray) (c : UInt8) (h : ∀ j (hj : j < s.size), s[j] ≠ c) : s.data.toList.contains c = false := by
  rw [Bool.eq_false_iff]
  intro hc
  rw [List.contains_iff_mem, List.mem_iff_getElem] at hc
  obtain ⟨j, hj, e⟩ := hc
  exact h j (by rw [← size_l]; exact hj) e
set_option maxHeartbeats 1000000 in
theorem among_any (c : UInt8) (s : ByteArray) (w : World) (hs : s.size ≤ 4194304) : Calls Try.prog 29 #[.int .u8 (c.toNat : Int), .string s] w fun e w' => e = .returned (.bool (s.data.toList.contains c)) ∧ w = w' := by
  go_enter Try.func29, Try.ntmps29
  go_wp2_with fail
  go_loopw [5] (fun i wr => ∃ k : Nat, k ≤ s.size ∧ i = .int .i64 k ∧ Hid (∀ j (hj : j < s.size), j < k → s[j] ≠ c) ∧ Hid (wr = w)) (fun i _ => s.size - (intOf i).toNat)
  case atStart => exact ⟨0, Nat.zero_le _, rfl, fun j _ h => by omega, rfl⟩
  case round =>
    obtain ⟨k, hk, rfl, hno, hw⟩ := hrel
    have hw' := hw.out
    subst hw'
    clear hw
    by_cases hlt : k < s.size
    · by_cases hc : s[k] = c
      · have hR : Hid (s.data.toList.contains c = true) := by unfold Hid; rw [← hc]; exact has_at s k hlt
        have hq : ((s[k].toNat : Int) == (c.toNat : Int)) = true := by simp [hc]
        clear hc hno
        go_wp2_with fail
        go_ret
        exact ⟨ret_bool hR.out.symm, rfl⟩
      · have hq : ((s[k].toNat : Int) == (c.toNat : Int)) = false := by
          simp only [beq_eq_false_iff_ne, ne_eq]
          intro h
          exact hc (UInt8.toNat_inj.1 (by omega))
        have hno' : Hid (∀ j (hj : j < s.size), j < k + 1 → s[j] ≠ c) := fun j hj h => by
          rcases Nat.lt_or_ge j k with h' | h'
          · exact hno.out j hj h'
          · have : j = k := by omega
            subst this; exact hc
        clear hc hno
        go_wp2_with fail
        go_roundw
        case rel => exact ⟨k + 1, hlt, by go_num, hno', by unfold Hid; trivial⟩
        case measure => simp [intOf]; omega
    · have hR : Hid (s.data.toList.contains c = false) := has_no s c fun j hj => hno.out j hj (by omega)
      clear hno
      go_wp2_with fail
      go_ret
      exact ⟨ret_bool hR.out.symm, rfl⟩
theorem rQuiet_any (b : UInt8) (w : World) : Calls Try.prog 23 #[.int .u8 (b.toNat : Int)] w fun e w' => e = .returned (.bool (qt b)) ∧ w = w' := by
  have h1 : Hid (Calls Try.prog 28 #[.int .u8 (b.toNat : Int)] w fun e w' => e = .returned (.bool (lt b.toNat)) ∧ w = w') := rLetter_any b w
  have h2 : Hid (Calls Try.prog 24 #[.int .u8 (b.toNat : Int)] w fun e w' => e = .returned (.bool (di b.toNat)) ∧ w = w') := rDigit_any b w
  have h3 : Hid (Calls Try.prog 29 #[.int .u8 (b.toNat : Int), .string { data := #[45, 46, 95, 126, 33, 36, 38, 39, 40, 41, 42, 43, 59, 61, 58, 64, 47] }] w fun e w' => e = .returned (.bool (sg.contains b)) ∧ w = w') := among_any b sgS w (by decide)
  unfold qt
  generalize sg.contains b = z at *
  generalize lt b.toNat = x at *
  generalize di b.toNat = y at *
  cases x with
  | true =>
    go_enter Try.func23, Try.ntmps23
    go_wp2_with fail
    refine h1.out.mono ?_
    rintro e W1 ⟨rfl, rfl⟩
    go_wp2_with fail
    go_ret
    exact ⟨rfl, rfl⟩
  | false =>
    cases y with
    | true =>
      go_enter Try.func23, Try.ntmps23
      go_wp2_with fail
      refine h1.out.mono ?_
      rintro e W1 ⟨rfl, rfl⟩
      go_wp2_with fail
      refine h2.out.mono ?_
      rintro e W1 ⟨rfl, rfl⟩
      go_wp2_with fail
      go_ret
      exact ⟨rfl, rfl⟩
    | false =>
      go_enter Try.func23, Try.ntmps23
      go_wp2_with fail
      refine h1.out.mono ?_
      rintro e W1 ⟨rfl, rfl⟩
      go_wp2_with fail
      refine h2.out.mono ?_
      rintro e W1 ⟨rfl, rfl⟩
      go_wp2_with fail
      refine h3.out.mono ?_
      rintro e W1 ⟨rfl, rfl⟩
      go_wp2_with fail
      go_ret
      exact ⟨by simp, rfl⟩
/-- What the reference's hexWorth answers. -/
def hw (c : UInt8) : Int := match wo c with | some x => (x : Int) | none => -1
theorem hw_some (c : UInt8) (x : Nat) (h : wo c = some x) : hw c = (x : Int) := by unfold hw; rw [h]
theorem hw_none (c : UInt8) (h : wo c = none) : hw c = -1 := by unfold hw; rw [h]
theorem hw_cases (c : UInt8) : hw c = if 48 ≤ c.toNat ∧ c.toNat ≤ 57 then (c.toNat : Int) - 48 else if 97 ≤ c.toNat ∧ c.toNat ≤ 102 then (c.toNat : Int) - 87 else if 65 ≤ c.toNat ∧ c.toNat ≤ 70 then (c.toNat : Int) - 55 else -1 := by
  unfold hw wo
  repeat' split
  all_goals simp_all
  all_goals omega
theorem rWorth_any (c : UInt8) (w : World) : Calls Try.prog 17 #[.int .u8 (c.toNat : Int)] w fun e w' => e = .returned (.int .i64 (hw c)) ∧ w = w' := by
  have h1 : Hid (Calls Try.prog 24 #[.int .u8 (c.toNat : Int)] w fun e w' => e = .returned (.bool (di c.toNat)) ∧ w = w') := rDigit_any c w
  have hb := c.toNat_lt
  rw [hw_cases]
  have hd : di c.toNat = true ↔ (48 ≤ c.toNat ∧ c.toNat ≤ 57) := by unfold di; simp
  generalize di c.toNat = x at *
  generalize c.toNat = n at *
  cases x with
  | true =>
    have hd' := hd.1 rfl
    rw [if_pos hd']
    have hn1 : 48 ≤ n := hd'.1
    have hn2 : n ≤ 57 := hd'.2
    clear hd hd'
    go_enter Try.func17, Try.ntmps17
    go_wp2_with fail
    refine h1.out.mono ?_
    rintro e W1 ⟨rfl, rfl⟩
    go_wp2_with fail
    go_ret
    exact ⟨ret_int (by first | rfl | go_num | omega), rfl⟩
  | false =>
    have hd' : ¬ (48 ≤ n ∧ n ≤ 57) := fun h => by have := hd.2 h; cases this
    rw [if_neg hd']
    clear hd hd'
    go_enter Try.func17, Try.ntmps17
    go_wp2_with fail
    refine h1.out.mono ?_
    rintro e W1 ⟨rfl, rfl⟩
    go_wp2_with fail
    all_goals go_ret
    all_goals refine ⟨ret_int ?_, rfl⟩
    all_goals (first | rfl | omega | (exfalso; omega))
end Go.Proofs.Ytjklnmddoiilgaa
