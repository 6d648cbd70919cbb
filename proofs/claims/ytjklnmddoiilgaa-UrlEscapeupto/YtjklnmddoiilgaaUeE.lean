import Derived.Test.YtjklnmddoiilgaaAtBuild
import Derived.Test.YtjklnmddoiilgaaUeD
namespace Go.Proofs.Ytjklnmddoiilgaa
open Go.RowKit
open EscMath

theorem and15' (n : Nat) (h : n < 256) : bits .and .u8 (n : Int) 15 = ((n % 16 : Nat) : Int) := by
  have e := u8_and_nat n 15 h (by omega)
  rw [show (15 : Int) = ((15 : Nat) : Int) from rfl, e]
  congr 1
  have := Nat.and_two_pow_sub_one_eq_mod n 4
  simpa using this
/-- The great digits as the program's constant. -/
theorem ug_at (q : Nat) (h : q < 16) : ({ data := #[48, 49, 50, 51, 52, 53, 54, 55, 56, 57, 65, 66, 67, 68, 69, 70] } : ByteArray)[q]'h = ug q := by
  have hp : ∀ n : Fin 16, ({ data := #[48, 49, 50, 51, 52, 53, 54, 55, 56, 57, 65, 66, 67, 68, 69, 70] } : ByteArray)[n.1]'(n.2) = ug n.1 := by decide +kernel
  exact hp ⟨q, h⟩

set_option maxRecDepth 100000 in
set_option maxHeartbeats 1000000 in
theorem escape_any (s : ByteArray) (w : World) (hs : s.size ≤ 4194304) :
    Calls Try.prog 5 #[.string s] w fun e w' => e = .returned (.string (S (esc s.data.toList))) ∧ Below w.heap.size w w' := by
  have hL : Hid (s.data.toList.length = s.size) := size_l s
  obtain ⟨W0, hW0⟩ : ∃ W0, w.alloc (.cells #[.pointer none, .slice none 0 0] 32) = W0 := ⟨_, rfl⟩
  have hI0 : Hid (IsB w.heap.size w.heap.size [] W0) := by
    have h := Lib.fresh_isBuilder 32 5 w
    rw [hW0] at h
    exact h
  have HB0 : Hid (Below w.heap.size w W0) := by unfold Hid; rw [← hW0]; exact (Below.refl _ _).alloc (Nat.le_refl _) _
  go_enter Try.func5, Try.ntmps5
  go_wp2_with fail
  go_loopw [8] (fun i wr => ∃ k : Nat, k ≤ s.size ∧ i = .int .i64 k ∧ Hid (IsB w.heap.size w.heap.size (esc (s.data.toList.take k)) wr) ∧ Hid (Below w.heap.size w wr)) (fun i _ => s.size - (intOf i).toNat)
  case atStart => exact ⟨0, Nat.zero_le _, rfl, hI0, HB0⟩
  case round =>
    obtain ⟨k, hk, rfl, hI, hB⟩ := hrel
    clear hI0 HB0 hW0
    have hlen : Hid ((esc (s.data.toList.take k)).length ≤ 3 * 4194304) := by
      unfold Hid
      have := esc_le (s.data.toList.take k)
      rw [List.length_take] at this
      have := hL.out
      omega
    by_cases hlt : k < s.size
    · have hsn : Hid (esc (s.data.toList.take (k + 1)) = esc (s.data.toList.take k) ++ e1 s[k]) := esc_snoc s k hlt
      have hqc : Hid (∀ w, Calls Try.prog 10 #[.int .u8 (s[k].toNat : Int)] w fun e w' => e = .returned (.bool (qt s[k])) ∧ w = w') := fun w => uQuiet_any s[k] w
      have hc256 : s[k].toNat < 256 := s[k].toNat_lt
      have hwr : Hid (w.heap.size ≤ wr.heap.size) := hB.out.size
      obtain ⟨c, hc⟩ : ∃ c, s[k] = c := ⟨_, rfl⟩
      rw [hc] at hsn hqc hc256
      cases hq : qt c with
      | true =>
        have he : e1 c = [c] := by unfold e1; rw [if_pos hq]
        rw [he] at hsn
        rw [hq] at hqc
        have hwb : Hid (Calls Try.prog 11 #[.pointer (some ⟨w.heap.size, 0, none⟩), .int .u8 (c.toNat : Int)] wr fun e w' => e = .returned .nilIface ∧ IsB w.heap.size w.heap.size (esc (s.data.toList.take k) ++ [c]) w' ∧ Below w.heap.size wr w') := writeByte_any _ _ _ c wr hI.out (by have := hlen.out; omega) hwr.out
        clear hI hlen hq he hc256
        go_wp2_with (first | (go_at_call 10; refine (hqc.out _).mono ?_; rintro e w' ⟨rfl, rfl⟩) | (go_at_call 11; refine hwb.out.mono ?_; rintro e w2 ⟨rfl, hI2, hb2⟩))
        have HI2 : Hid (IsB w.heap.size w.heap.size (esc (s.data.toList.take (k + 1))) w2) := by unfold Hid; rw [hsn.out]; exact hI2
        have HB2 : Hid (Below w.heap.size w w2) := hB.out.trans hb2
        clear hI2 hb2
        go_roundw
        case rel => exact ⟨k + 1, hlt, by go_num, HI2, HB2⟩
        case measure => simp [intOf]; omega
      | false =>
        have he : e1 c = [37, ug (c.toNat / 16), ug (c.toNat % 16)] := by unfold e1; rw [if_neg (by rw [hq]; decide)]
        rw [he] at hsn
        rw [hq] at hqc
        have hr : bits .and .u8 ((c.toNat : Nat) : Int) 15 = ((c.toNat % 16 : Nat) : Int) := and15' _ hc256
        have hqq : ((c.toNat : Nat) : Int) / 16 = ((c.toNat / 16 : Nat) : Int) := by omega
        have b1 : c.toNat / 16 < 16 := by omega
        have b2 : c.toNat % 16 < 16 := by omega
        have hu1 := ug_at _ b1
        have hu2 := ug_at _ b2
        have hwb : Hid (Calls Try.prog 11 #[.pointer (some ⟨w.heap.size, 0, none⟩), .int .u8 37] wr fun e w' => e = .returned .nilIface ∧ IsB w.heap.size w.heap.size (esc (s.data.toList.take k) ++ [37]) w' ∧ Below w.heap.size wr w') := writeByte_any _ _ _ 37 wr hI.out (by have := hlen.out; omega) hwr.out
        have c5 : (0 : Int) ≤ (k : Int) := by omega
        have c6 : (k : Int) < (s.size : Int) := by omega
        generalize c.toNat / 16 = qa at *
        generalize c.toNat % 16 = qb at *
        clear hI hq he hc256
        go_wp2_with (go_at_call 10; refine (hqc.out _).mono ?_; rintro e w' ⟨rfl, rfl⟩)
        refine hwb.out.mono ?_
        rintro e w2 ⟨rfl, hI2, hb2⟩
        have hn2 : w.heap.size ≤ w2.heap.size := Nat.le_trans hwr.out hb2.size
        have hwb2 : Hid (Calls Try.prog 11 #[.pointer (some ⟨w.heap.size, 0, none⟩), .int .u8 ((ug qa).toNat : Int)] w2 fun e w' => e = .returned .nilIface ∧ IsB w.heap.size w.heap.size (esc (s.data.toList.take k) ++ [37] ++ [ug qa]) w' ∧ Below w.heap.size w2 w') := writeByte_any _ _ _ (ug qa) w2 hI2 (by rw [List.length_append]; have := hlen.out; simp; omega) hn2
        have hB2 : Hid (Below w.heap.size w w2) := hB.out.trans hb2
        clear hI2 hb2 hn2 hwb
        go_wp2_with fail
        refine hwb2.out.mono ?_
        rintro e w3 ⟨rfl, hI3, hb3⟩
        have hn3 : w.heap.size ≤ w3.heap.size := Nat.le_trans hB2.out.size hb3.size
        have hwb3 : Hid (Calls Try.prog 11 #[.pointer (some ⟨w.heap.size, 0, none⟩), .int .u8 ((ug qb).toNat : Int)] w3 fun e w' => e = .returned .nilIface ∧ IsB w.heap.size w.heap.size (esc (s.data.toList.take k) ++ [37] ++ [ug qa] ++ [ug qb]) w' ∧ Below w.heap.size w3 w') := writeByte_any _ _ _ (ug qb) w3 hI3 (by rw [List.length_append, List.length_append]; have := hlen.out; simp; omega) hn3
        have hB3 : Hid (Below w.heap.size w w3) := hB2.out.trans hb3
        clear hI3 hb3 hn3 hwb2 hB2
        go_wp2_with fail
        refine hwb3.out.mono ?_
        rintro e w4 ⟨rfl, hI4, hb4⟩
        have HI4 : Hid (IsB w.heap.size w.heap.size (esc (s.data.toList.take (k + 1))) w4) := by unfold Hid; rw [hsn.out]; simpa using hI4
        have HB4 : Hid (Below w.heap.size w w4) := hB3.out.trans hb4
        clear hI4 hb4 hwb3 hB3
        go_wp2_with fail
        go_roundw
        case rel => exact ⟨k + 1, hlt, by go_num, HI4, HB4⟩
        case measure => simp [intOf]; omega
    · have hke : k = s.size := by omega
      subst hke
      have hst : Hid (Calls Try.prog 12 #[.pointer (some ⟨w.heap.size, 0, none⟩)] wr fun e w' => e = .returned (.string (S (esc s.data.toList))) ∧ Below w.heap.size wr w') := by
        have := bString_any _ _ _ wr hI.out hB.out.size
        rw [List.take_of_length_le (by rw [hL.out]; exact Nat.le_refl _)] at this
        exact this
      clear hI hlen
      go_wp2_with (go_at_call 12; refine hst.out.mono ?_; rintro e w2 ⟨rfl, hb2⟩)
      go_ret
      exact ⟨rfl, hB.out.trans hb2⟩
end Go.Proofs.Ytjklnmddoiilgaa
