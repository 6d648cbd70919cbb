import Derived.Test.YtjklnmddoiilgaaUeE
import Derived.Test.YtjklnmddoiilgaaUeU
namespace Go.Proofs.Ytjklnmddoiilgaa
open Go.RowKit
open EscMath
open TextMath (pre)

set_option maxRecDepth 100000 in
set_option maxHeartbeats 1000000 in
theorem urlQuiet_walk (s : ByteArray) (w : World) (hs : s.size ≤ 1048576) :
    Calls Try.prog 3 #[.string s] w fun e w' => e = .returned (.bool true) ∧ Below w.heap.size w w' := by
  have hL : Hid (s.data.toList.length = s.size) := size_l s
  obtain ⟨T, hT⟩ : ∃ T, S (esc s.data.toList) = T := ⟨_, rfl⟩
  have hTl : Hid (T.data.toList = esc s.data.toList) := by unfold Hid; rw [← hT, S_l]
  have hTs : Hid (T.size = cn s.data.toList) := by unfold Hid; rw [← hT, S_size, cn_esc]
  have hTm : T.size ≤ 3145728 := by rw [hTs.out]; have := cn_le s.data.toList; rw [hL.out] at this; omega
  have hE : Hid (Calls Try.prog 5 #[.string s] w fun e w' => e = .returned (.string T) ∧ Below w.heap.size w w') := by
    have := escape_any s w (by omega)
    rw [hT] at this
    exact this
  have hU : Hid (∀ w, Calls Try.prog 6 #[.string T] w fun e w' => e = .returned (.tuple #[.string s, .int .i64 0, .int .i64 0]) ∧ Below w.heap.size w w') := by
    intro w
    have := unescape_any T w (by omega)
    have ev : unV (.ok s.data.toList) = .tuple #[.string s, .int .i64 0, .int .i64 0] := by unfold unV; simp only; rw [S_of]
    rw [hTl.out, une_esc, ev] at this
    exact this
  have hqT : Hid (∀ i (hi : i < T.size), qt T[i] = true ∨ T[i] = 37) := by
    intro i hi
    have h := esc_quiet s.data.toList T[i]
    rw [← hTl.out] at h
    refine h ?_
    show T.data[i] ∈ T.data.toList
    simp
  have hend : Hid ((T.toList == s.toList) = ((T.size : Int) == (s.size : Int))) := by
    unfold Hid
    have e : T = s ↔ T.size = s.size := by
      have h1 := esc_same s.data.toList
      rw [cn_esc, ← hTs.out, hL.out, ← hTl.out] at h1
      constructor
      · intro h; rw [h]
      · intro h
        have := h1.2 h
        rw [← S_of T, ← S_of s, this]
    rw [Bool.eq_iff_iff, beq_iff_eq, beq_iff_eq]
    constructor
    · intro h
      have : T.data.toList = s.data.toList := by rw [← Lib.toList_data, ← Lib.toList_data]; exact h
      have := e.1 (by rw [← S_of T, ← S_of s, this])
      omega
    · intro h
      have := e.2 (by omega)
      rw [this]
  clear hTl hT
  go_enter Try.func3, Try.ntmps3
  go_wp2_with (first | (go_at_call 5; refine hE.out.mono ?_; rintro e w1 ⟨rfl, hb1⟩) | (go_at_call 6; refine (hU.out _).mono ?_; rintro e w2 ⟨rfl, hb2⟩))
  have HB : Hid (Below w.heap.size w w2) := hb1.trans (hb2.mono hb1.size)
  clear hE hU hb1 hb2
  go_loopw [7, 8] (fun n i wr => ∃ k : Nat, k ≤ s.size ∧ i = .int .i64 k ∧ n = .int .i64 (cn (s.data.toList.take k) : Nat) ∧ Hid (w2 = wr)) (fun _ i _ => s.size - (intOf i).toNat)
  case atStart => exact ⟨0, Nat.zero_le _, rfl, rfl, rfl⟩
  case round =>
    obtain ⟨k, hk, rfl, rfl, hw⟩ := hrel
    have hw' := hw.out
    subst hw'
    clear hw
    have hcl : cn (s.data.toList.take k) ≤ 3145728 := by have := cn_le (s.data.toList.take k); rw [List.length_take, hL.out] at this; omega
    by_cases hlt : k < s.size
    · have hsn : Hid (cn (s.data.toList.take (k + 1)) = cn (s.data.toList.take k) + if qt s[k] then 1 else 3) := cn_snoc s k hlt
      have hqc : Hid (∀ w, Calls Try.prog 7 #[.int .u8 (s[k].toNat : Int)] w fun e w' => e = .returned (.bool (qt s[k])) ∧ w = w') := fun w => lQuiet_any s[k] w
      cases hq : qt s[k] with
      | true =>
        rw [hq] at hsn hqc
        have hsn2 : Hid (cn (s.data.toList.take (k + 1)) = cn (s.data.toList.take k) + 1) := hsn.out
        clear hq hsn
        generalize cn (s.data.toList.take k) = N at *
        go_wp2_with (go_at_call 7; refine (hqc.out _).mono ?_; rintro e w3 ⟨rfl, rfl⟩)
        go_roundw
        case rel => exact ⟨k + 1, hlt, by go_num, by rw [hsn2.out]; go_num, by unfold Hid; trivial⟩
        case measure => simp [intOf]; omega
      | false =>
        rw [hq] at hsn hqc
        have hsn2 : Hid (cn (s.data.toList.take (k + 1)) = cn (s.data.toList.take k) + 3) := hsn.out
        clear hq hsn
        generalize cn (s.data.toList.take k) = N at *
        go_wp2_with (go_at_call 7; refine (hqc.out _).mono ?_; rintro e w3 ⟨rfl, rfl⟩)
        go_roundw
        case rel => exact ⟨k + 1, hlt, by go_num, by rw [hsn2.out]; go_num, by unfold Hid; trivial⟩
        case measure => simp [intOf]; omega
    · have hke : k = s.size := by omega
      subst hke
      rw [List.take_of_length_le (by rw [hL.out]; exact Nat.le_refl _), ← hTs.out]
      clear hcl
      go_wp2_with fail
      go_loopw [9] (fun i wr => ∃ k : Nat, k ≤ T.size ∧ i = .int .i64 k ∧ Hid (w2 = wr)) (fun i _ => T.size - (intOf i).toNat)
      case atStart => exact ⟨0, Nat.zero_le _, rfl, rfl⟩
      case round =>
        obtain ⟨k, hk, rfl, hw⟩ := hrel
        have hw' := hw.out
        subst hw'
        clear hw
        by_cases hlt : k < T.size
        · have hqc : Hid (∀ w, Calls Try.prog 7 #[.int .u8 (T[k].toNat : Int)] w fun e w' => e = .returned (.bool (qt T[k])) ∧ w = w') := fun w => lQuiet_any T[k] w
          cases hq : qt T[k] with
          | true =>
            rw [hq] at hqc
            clear hq
            go_wp2_with (go_at_call 7; refine (hqc.out _).mono ?_; rintro e w3 ⟨rfl, rfl⟩)
            go_roundw
            case rel => exact ⟨k + 1, hlt, by go_num, by unfold Hid; trivial⟩
            case measure => simp [intOf]; omega
          | false =>
            have h37 : ((T[k].toNat : Int) != 37) = false := by
              rcases hqT.out k hlt with h | h
              · rw [hq] at h; cases h
              · rw [h]; rfl
            rw [hq] at hqc
            clear hq
            go_wp2_with (go_at_call 7; refine (hqc.out _).mono ?_; rintro e w3 ⟨rfl, rfl⟩)
            go_roundw
            case rel => exact ⟨k + 1, hlt, by go_num, by unfold Hid; trivial⟩
            case measure => simp [intOf]; omega
        · clear hk
          go_wp2_with fail
          rw [hend.out]
          go_ret
          exact ⟨ret_bool (by simp), HB.out⟩
end Go.Proofs.Ytjklnmddoiilgaa
