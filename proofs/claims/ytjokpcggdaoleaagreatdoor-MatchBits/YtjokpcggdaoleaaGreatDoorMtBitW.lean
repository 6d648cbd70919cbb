import Derived.Test.YtjokpcggdaoleaaGreatDoorMtBitL
namespace Go.Proofs.YtjokpcggdaoleaaGreatDoor
open Go.RowKit
set_option linter.unusedVariables false

set_option maxRecDepth 100000 in
set_option maxHeartbeats 4000000 in
theorem matchBits_SS (a b : ByteArray) (w : World) (hA : a.size ≤ 100) (hBb : b.size ≤ 100) : Calls Tryz.prog 3 #[.string a, .string b] w fun e w' => e = .returned (.bool true) ∧ Below w.heap.size w w' := by
  go_enter Tryz.func3, Tryz.ntmps3
  go_wp2_with fail
  go_loopw [5, 7] (fun xv iv wr => ∃ i : Nat, i ≤ a.size ∧ i ≤ 100 ∧ iv = .int .i64 (i : Int) ∧ xv = .string (S (bx a.data.toList i)) ∧ Hid (Below w.heap.size w wr)) (fun _ iv _ => 100 - (intOf iv).toNat)
  case atStart => exact ⟨0, Nat.zero_le _, Nat.zero_le _, rfl, rfl, Below.refl _ _⟩
  case round =>
    obtain ⟨i, hle, hle2, rfl, rfl, hB⟩ := hrel
    have i0 : (0 : Int) ≤ (i : Int) := Int.natCast_nonneg _
    by_cases hlt : i < a.size ∧ i < 100
    · obtain ⟨hl1, hl2⟩ := hlt
      have i2 : (i : Int) < (a.size : Int) := by omega
      have i3 : (i : Int) < 100 := by omega
      have hsn := bx_snoc a i hl1
      have hxs := bx_size a.data.toList i hle2
      obtain ⟨X, hX⟩ : ∃ X, S (bx a.data.toList i) = X := ⟨_, rfl⟩
      obtain ⟨X', hX'⟩ : ∃ X', S (bx a.data.toList (i + 1)) = X' := ⟨_, rfl⟩
      rw [hX, hX'] at hsn
      rw [hX] at hxs ⊢
      have hcv := one_back wr (a[i]'hl1)
      have hz1 : ¬ X.size + (S [MtBitM.dg (a[i]'hl1)]).size > 9223372036854775807 := by rw [S_size]; simp; omega
      have hX2 : Hid (S (bx a.data.toList (i + 1)) = X') := hX'
      have hl1' : Hid (i < 100) := hl2
      have hl2' : Hid (i < a.size) := hl1
      have hB2 : Hid (Below w.heap.size w (wr.alloc (.cells #[.int .u8 (48 + ((a[i]'hl1).toNat : Int) % 2)] 5))) := hB.out.alloc hB.out.size _
      clear hX hX' hxs hle hle2 hl2 hB
      go_wp2_with fail
      go_roundw
      case rel => exact ⟨i + 1, hl2'.out, hl1'.out, by simp, by rw [hX2.out], hB2⟩
      case measure => have := hl1'.out; simp [intOf]; omega
    · obtain rfl : i = a.size := by omega
      clear hlt hle hle2
      go_wp2_with fail
      go_loopw [6, 8] (fun xv iv wr => ∃ i : Nat, i ≤ b.size ∧ i ≤ 100 ∧ iv = .int .i64 (i : Int) ∧ xv = .string (S (bx b.data.toList i)) ∧ Hid (Below w.heap.size w wr)) (fun _ iv _ => 100 - (intOf iv).toNat)
      case atStart => exact ⟨0, Nat.zero_le _, Nat.zero_le _, rfl, rfl, hB⟩
      case round =>
        obtain ⟨i, hle, hle2, rfl, rfl, hB⟩ := hrel
        have i0 : (0 : Int) ≤ (i : Int) := Int.natCast_nonneg _
        by_cases hlt : i < b.size ∧ i < 100
        · obtain ⟨hl1, hl2⟩ := hlt
          have i2 : (i : Int) < (b.size : Int) := by omega
          have i3 : (i : Int) < 100 := by omega
          have hsn := bx_snoc b i hl1
          have hxs := bx_size b.data.toList i hle2
          obtain ⟨X, hX⟩ : ∃ X, S (bx b.data.toList i) = X := ⟨_, rfl⟩
          obtain ⟨X', hX'⟩ : ∃ X', S (bx b.data.toList (i + 1)) = X' := ⟨_, rfl⟩
          rw [hX, hX'] at hsn
          rw [hX] at hxs ⊢
          have hcv := one_back wr (b[i]'hl1)
          have hz1 : ¬ X.size + (S [MtBitM.dg (b[i]'hl1)]).size > 9223372036854775807 := by rw [S_size]; simp; omega
          have hX2 : Hid (S (bx b.data.toList (i + 1)) = X') := hX'
          have hl1' : Hid (i < 100) := hl2
          have hl2' : Hid (i < b.size) := hl1
          have hB2 : Hid (Below w.heap.size w (wr.alloc (.cells #[.int .u8 (48 + ((b[i]'hl1).toNat : Int) % 2)] 5))) := hB.out.alloc hB.out.size _
          clear hX hX' hxs hle hle2 hl2 hB
          go_wp2_with fail
          go_roundw
          case rel => exact ⟨i + 1, hl2'.out, hl1'.out, by simp, by rw [hX2.out], hB2⟩
          case measure => have := hl1'.out; simp [intOf]; omega
        · obtain rfl : i = b.size := by omega
          clear hlt hle hle2
          obtain ⟨p, hp⟩ : ∃ p, (a.data.toList.take a.size).map MtBitM.dg = p := ⟨_, rfl⟩
          obtain ⟨q, hq⟩ : ∃ q, (b.data.toList.take b.size).map MtBitM.dg = q := ⟨_, rfl⟩
          have hpl : p.length ≤ 100 := by rw [← hp, List.length_map, List.length_take]; omega
          have hql : q.length ≤ 100 := by rw [← hq, List.length_map, List.length_take]; omega
          obtain ⟨X, Y, XB, YB, Xb, X2, Xs, bq, t, x1, x2, x3, x4, x5, x6, x7, x8, x9, x10, hT, hE1, hR, hE2, hE3, hE4⟩ := bits_pack p q (by rw [← hp]; exact MtBitM.dg_01 _) (by rw [← hq]; exact MtBitM.dg_01 _) hpl hql
          rw [show S (bx a.data.toList a.size) = X from by unfold bx; rw [hp]; exact x1, show S (bx b.data.toList b.size) = Y from by unfold bx; rw [hq]; exact x2]
          have n1 : ¬ X.size + 2 > 9223372036854775807 := by omega
          have n2 : ¬ Y.size + 2 > 9223372036854775807 := by omega
          have n3 : ¬ X.size + 3 > 9223372036854775807 := by omega
          have n4 : ¬ X.size + 1 > 9223372036854775807 := by omega
          clear hp hq hpl hql x1 x2 x8 x9 hA hBb
          go_wp2_with (first | (go_at_call 6; refine (hE1 _).out.mono ?_; clear hE1; rintro e w1 ⟨rfl, hb1⟩) | (go_at_call 7; refine (hT _).out.mono ?_; rintro e w' ⟨rfl, rfl⟩) | (go_at_call 8; refine (hR _).out.mono ?_; rintro e w2 ⟨rfl, hb2⟩) | (go_at_call 6; refine (hE2 _).out.mono ?_; clear hE2; rintro e w3 ⟨rfl, hb3⟩) | (go_at_call 6; refine (hE3 _).out.mono ?_; clear hE3; rintro e w4 ⟨rfl, hb4⟩) | (go_at_call 6; refine (hE4 _).out.mono ?_; clear hE4; rintro e w5 ⟨rfl, hb5⟩))
          go_ret
          refine ⟨by first | rfl | simp, ?_⟩
          have k1 := hB.out.trans (hb1.mono hB.out.size)
          have k2 := k1.trans (hb2.mono k1.size)
          have k3 := k2.trans (hb3.mono k2.size)
          have k4 := k3.trans (hb4.mono k3.size)
          exact k4.trans (hb5.mono k4.size)
set_option maxRecDepth 100000 in
set_option maxHeartbeats 4000000 in
theorem matchBits_SL (a b : ByteArray) (w : World) (hA : a.size ≤ 100) (hBb : 100 < b.size ∧ b.size ≤ 4611686018427387904) : Calls Tryz.prog 3 #[.string a, .string b] w fun e w' => e = .returned (.bool true) ∧ Below w.heap.size w w' := by
  go_enter Tryz.func3, Tryz.ntmps3
  go_wp2_with fail
  go_loopw [5, 7] (fun xv iv wr => ∃ i : Nat, i ≤ a.size ∧ i ≤ 100 ∧ iv = .int .i64 (i : Int) ∧ xv = .string (S (bx a.data.toList i)) ∧ Hid (Below w.heap.size w wr)) (fun _ iv _ => 100 - (intOf iv).toNat)
  case atStart => exact ⟨0, Nat.zero_le _, Nat.zero_le _, rfl, rfl, Below.refl _ _⟩
  case round =>
    obtain ⟨i, hle, hle2, rfl, rfl, hB⟩ := hrel
    have i0 : (0 : Int) ≤ (i : Int) := Int.natCast_nonneg _
    by_cases hlt : i < a.size ∧ i < 100
    · obtain ⟨hl1, hl2⟩ := hlt
      have i2 : (i : Int) < (a.size : Int) := by omega
      have i3 : (i : Int) < 100 := by omega
      have hsn := bx_snoc a i hl1
      have hxs := bx_size a.data.toList i hle2
      obtain ⟨X, hX⟩ : ∃ X, S (bx a.data.toList i) = X := ⟨_, rfl⟩
      obtain ⟨X', hX'⟩ : ∃ X', S (bx a.data.toList (i + 1)) = X' := ⟨_, rfl⟩
      rw [hX, hX'] at hsn
      rw [hX] at hxs ⊢
      have hcv := one_back wr (a[i]'hl1)
      have hz1 : ¬ X.size + (S [MtBitM.dg (a[i]'hl1)]).size > 9223372036854775807 := by rw [S_size]; simp; omega
      have hX2 : Hid (S (bx a.data.toList (i + 1)) = X') := hX'
      have hl1' : Hid (i < 100) := hl2
      have hl2' : Hid (i < a.size) := hl1
      have hB2 : Hid (Below w.heap.size w (wr.alloc (.cells #[.int .u8 (48 + ((a[i]'hl1).toNat : Int) % 2)] 5))) := hB.out.alloc hB.out.size _
      clear hX hX' hxs hle hle2 hl2 hB
      go_wp2_with fail
      go_roundw
      case rel => exact ⟨i + 1, hl2'.out, hl1'.out, by simp, by rw [hX2.out], hB2⟩
      case measure => have := hl1'.out; simp [intOf]; omega
    · obtain rfl : i = a.size := by omega
      clear hlt hle hle2
      go_wp2_with fail
      go_loopw [6, 8] (fun xv iv wr => ∃ i : Nat, i ≤ b.size ∧ i ≤ 100 ∧ iv = .int .i64 (i : Int) ∧ xv = .string (S (bx b.data.toList i)) ∧ Hid (Below w.heap.size w wr)) (fun _ iv _ => 100 - (intOf iv).toNat)
      case atStart => exact ⟨0, Nat.zero_le _, Nat.zero_le _, rfl, rfl, hB⟩
      case round =>
        obtain ⟨i, hle, hle2, rfl, rfl, hB⟩ := hrel
        have i0 : (0 : Int) ≤ (i : Int) := Int.natCast_nonneg _
        by_cases hlt : i < b.size ∧ i < 100
        · obtain ⟨hl1, hl2⟩ := hlt
          have i2 : (i : Int) < (b.size : Int) := by omega
          have i3 : (i : Int) < 100 := by omega
          have hsn := bx_snoc b i hl1
          have hxs := bx_size b.data.toList i hle2
          obtain ⟨X, hX⟩ : ∃ X, S (bx b.data.toList i) = X := ⟨_, rfl⟩
          obtain ⟨X', hX'⟩ : ∃ X', S (bx b.data.toList (i + 1)) = X' := ⟨_, rfl⟩
          rw [hX, hX'] at hsn
          rw [hX] at hxs ⊢
          have hcv := one_back wr (b[i]'hl1)
          have hz1 : ¬ X.size + (S [MtBitM.dg (b[i]'hl1)]).size > 9223372036854775807 := by rw [S_size]; simp; omega
          have hX2 : Hid (S (bx b.data.toList (i + 1)) = X') := hX'
          have hl1' : Hid (i < 100) := hl2
          have hl2' : Hid (i < b.size) := hl1
          have hB2 : Hid (Below w.heap.size w (wr.alloc (.cells #[.int .u8 (48 + ((b[i]'hl1).toNat : Int) % 2)] 5))) := hB.out.alloc hB.out.size _
          clear hX hX' hxs hle hle2 hl2 hB
          go_wp2_with fail
          go_roundw
          case rel => exact ⟨i + 1, hl2'.out, hl1'.out, by simp, by rw [hX2.out], hB2⟩
          case measure => have := hl1'.out; simp [intOf]; omega
        · obtain rfl : i = 100 := by omega
          have z1 : (100 : Int) < (b.size : Int) := by omega
          clear hlt hle hle2
          obtain ⟨p, hp⟩ : ∃ p, (a.data.toList.take a.size).map MtBitM.dg = p := ⟨_, rfl⟩
          obtain ⟨q, hq⟩ : ∃ q, (b.data.toList.take 100).map MtBitM.dg = q := ⟨_, rfl⟩
          have hpl : p.length ≤ 100 := by rw [← hp, List.length_map, List.length_take]; omega
          have hql : q.length ≤ 100 := by rw [← hq, List.length_map, List.length_take]; omega
          obtain ⟨X, Y, XB, YB, Xb, X2, Xs, bq, t, x1, x2, x3, x4, x5, x6, x7, x8, x9, x10, hT, hE1, hR, hE2, hE3, hE4⟩ := bits_pack p q (by rw [← hp]; exact MtBitM.dg_01 _) (by rw [← hq]; exact MtBitM.dg_01 _) hpl hql
          rw [show S (bx a.data.toList a.size) = X from by unfold bx; rw [hp]; exact x1, show S (bx b.data.toList 100) = Y from by unfold bx; rw [hq]; exact x2]
          have n1 : ¬ X.size + 2 > 9223372036854775807 := by omega
          have n2 : ¬ Y.size + 2 > 9223372036854775807 := by omega
          have n3 : ¬ X.size + 3 > 9223372036854775807 := by omega
          have n4 : ¬ X.size + 1 > 9223372036854775807 := by omega
          clear hp hq hpl hql x1 x2 x8 x9 hA hBb
          go_wp2_with (first | (go_at_call 6; refine (hE1 _).out.mono ?_; clear hE1; rintro e w1 ⟨rfl, hb1⟩) | (go_at_call 7; refine (hT _).out.mono ?_; rintro e w' ⟨rfl, rfl⟩) | (go_at_call 8; refine (hR _).out.mono ?_; rintro e w2 ⟨rfl, hb2⟩) | (go_at_call 6; refine (hE2 _).out.mono ?_; clear hE2; rintro e w3 ⟨rfl, hb3⟩) | (go_at_call 6; refine (hE3 _).out.mono ?_; clear hE3; rintro e w4 ⟨rfl, hb4⟩) | (go_at_call 6; refine (hE4 _).out.mono ?_; clear hE4; rintro e w5 ⟨rfl, hb5⟩))
          go_ret
          refine ⟨by first | rfl | simp, ?_⟩
          have k1 := hB.out.trans (hb1.mono hB.out.size)
          have k2 := k1.trans (hb2.mono k1.size)
          have k3 := k2.trans (hb3.mono k2.size)
          have k4 := k3.trans (hb4.mono k3.size)
          exact k4.trans (hb5.mono k4.size)
set_option maxRecDepth 100000 in
set_option maxHeartbeats 4000000 in
theorem matchBits_LS (a b : ByteArray) (w : World) (hA : 100 < a.size ∧ a.size ≤ 4611686018427387904) (hBb : b.size ≤ 100) : Calls Tryz.prog 3 #[.string a, .string b] w fun e w' => e = .returned (.bool true) ∧ Below w.heap.size w w' := by
  go_enter Tryz.func3, Tryz.ntmps3
  go_wp2_with fail
  go_loopw [5, 7] (fun xv iv wr => ∃ i : Nat, i ≤ a.size ∧ i ≤ 100 ∧ iv = .int .i64 (i : Int) ∧ xv = .string (S (bx a.data.toList i)) ∧ Hid (Below w.heap.size w wr)) (fun _ iv _ => 100 - (intOf iv).toNat)
  case atStart => exact ⟨0, Nat.zero_le _, Nat.zero_le _, rfl, rfl, Below.refl _ _⟩
  case round =>
    obtain ⟨i, hle, hle2, rfl, rfl, hB⟩ := hrel
    have i0 : (0 : Int) ≤ (i : Int) := Int.natCast_nonneg _
    by_cases hlt : i < a.size ∧ i < 100
    · obtain ⟨hl1, hl2⟩ := hlt
      have i2 : (i : Int) < (a.size : Int) := by omega
      have i3 : (i : Int) < 100 := by omega
      have hsn := bx_snoc a i hl1
      have hxs := bx_size a.data.toList i hle2
      obtain ⟨X, hX⟩ : ∃ X, S (bx a.data.toList i) = X := ⟨_, rfl⟩
      obtain ⟨X', hX'⟩ : ∃ X', S (bx a.data.toList (i + 1)) = X' := ⟨_, rfl⟩
      rw [hX, hX'] at hsn
      rw [hX] at hxs ⊢
      have hcv := one_back wr (a[i]'hl1)
      have hz1 : ¬ X.size + (S [MtBitM.dg (a[i]'hl1)]).size > 9223372036854775807 := by rw [S_size]; simp; omega
      have hX2 : Hid (S (bx a.data.toList (i + 1)) = X') := hX'
      have hl1' : Hid (i < 100) := hl2
      have hl2' : Hid (i < a.size) := hl1
      have hB2 : Hid (Below w.heap.size w (wr.alloc (.cells #[.int .u8 (48 + ((a[i]'hl1).toNat : Int) % 2)] 5))) := hB.out.alloc hB.out.size _
      clear hX hX' hxs hle hle2 hl2 hB
      go_wp2_with fail
      go_roundw
      case rel => exact ⟨i + 1, hl2'.out, hl1'.out, by simp, by rw [hX2.out], hB2⟩
      case measure => have := hl1'.out; simp [intOf]; omega
    · obtain rfl : i = 100 := by omega
      have z1 : (100 : Int) < (a.size : Int) := by omega
      clear hlt hle hle2
      go_wp2_with fail
      go_loopw [6, 8] (fun xv iv wr => ∃ i : Nat, i ≤ b.size ∧ i ≤ 100 ∧ iv = .int .i64 (i : Int) ∧ xv = .string (S (bx b.data.toList i)) ∧ Hid (Below w.heap.size w wr)) (fun _ iv _ => 100 - (intOf iv).toNat)
      case atStart => exact ⟨0, Nat.zero_le _, Nat.zero_le _, rfl, rfl, hB⟩
      case round =>
        obtain ⟨i, hle, hle2, rfl, rfl, hB⟩ := hrel
        have i0 : (0 : Int) ≤ (i : Int) := Int.natCast_nonneg _
        by_cases hlt : i < b.size ∧ i < 100
        · obtain ⟨hl1, hl2⟩ := hlt
          have i2 : (i : Int) < (b.size : Int) := by omega
          have i3 : (i : Int) < 100 := by omega
          have hsn := bx_snoc b i hl1
          have hxs := bx_size b.data.toList i hle2
          obtain ⟨X, hX⟩ : ∃ X, S (bx b.data.toList i) = X := ⟨_, rfl⟩
          obtain ⟨X', hX'⟩ : ∃ X', S (bx b.data.toList (i + 1)) = X' := ⟨_, rfl⟩
          rw [hX, hX'] at hsn
          rw [hX] at hxs ⊢
          have hcv := one_back wr (b[i]'hl1)
          have hz1 : ¬ X.size + (S [MtBitM.dg (b[i]'hl1)]).size > 9223372036854775807 := by rw [S_size]; simp; omega
          have hX2 : Hid (S (bx b.data.toList (i + 1)) = X') := hX'
          have hl1' : Hid (i < 100) := hl2
          have hl2' : Hid (i < b.size) := hl1
          have hB2 : Hid (Below w.heap.size w (wr.alloc (.cells #[.int .u8 (48 + ((b[i]'hl1).toNat : Int) % 2)] 5))) := hB.out.alloc hB.out.size _
          clear hX hX' hxs hle hle2 hl2 hB
          go_wp2_with fail
          go_roundw
          case rel => exact ⟨i + 1, hl2'.out, hl1'.out, by simp, by rw [hX2.out], hB2⟩
          case measure => have := hl1'.out; simp [intOf]; omega
        · obtain rfl : i = b.size := by omega
          clear hlt hle hle2
          obtain ⟨p, hp⟩ : ∃ p, (a.data.toList.take 100).map MtBitM.dg = p := ⟨_, rfl⟩
          obtain ⟨q, hq⟩ : ∃ q, (b.data.toList.take b.size).map MtBitM.dg = q := ⟨_, rfl⟩
          have hpl : p.length ≤ 100 := by rw [← hp, List.length_map, List.length_take]; omega
          have hql : q.length ≤ 100 := by rw [← hq, List.length_map, List.length_take]; omega
          obtain ⟨X, Y, XB, YB, Xb, X2, Xs, bq, t, x1, x2, x3, x4, x5, x6, x7, x8, x9, x10, hT, hE1, hR, hE2, hE3, hE4⟩ := bits_pack p q (by rw [← hp]; exact MtBitM.dg_01 _) (by rw [← hq]; exact MtBitM.dg_01 _) hpl hql
          rw [show S (bx a.data.toList 100) = X from by unfold bx; rw [hp]; exact x1, show S (bx b.data.toList b.size) = Y from by unfold bx; rw [hq]; exact x2]
          have n1 : ¬ X.size + 2 > 9223372036854775807 := by omega
          have n2 : ¬ Y.size + 2 > 9223372036854775807 := by omega
          have n3 : ¬ X.size + 3 > 9223372036854775807 := by omega
          have n4 : ¬ X.size + 1 > 9223372036854775807 := by omega
          clear hp hq hpl hql x1 x2 x8 x9 hA hBb
          go_wp2_with (first | (go_at_call 6; refine (hE1 _).out.mono ?_; clear hE1; rintro e w1 ⟨rfl, hb1⟩) | (go_at_call 7; refine (hT _).out.mono ?_; rintro e w' ⟨rfl, rfl⟩) | (go_at_call 8; refine (hR _).out.mono ?_; rintro e w2 ⟨rfl, hb2⟩) | (go_at_call 6; refine (hE2 _).out.mono ?_; clear hE2; rintro e w3 ⟨rfl, hb3⟩) | (go_at_call 6; refine (hE3 _).out.mono ?_; clear hE3; rintro e w4 ⟨rfl, hb4⟩) | (go_at_call 6; refine (hE4 _).out.mono ?_; clear hE4; rintro e w5 ⟨rfl, hb5⟩))
          go_ret
          refine ⟨by first | rfl | simp, ?_⟩
          have k1 := hB.out.trans (hb1.mono hB.out.size)
          have k2 := k1.trans (hb2.mono k1.size)
          have k3 := k2.trans (hb3.mono k2.size)
          have k4 := k3.trans (hb4.mono k3.size)
          exact k4.trans (hb5.mono k4.size)
set_option maxRecDepth 100000 in
set_option maxHeartbeats 4000000 in
theorem matchBits_LL (a b : ByteArray) (w : World) (hA : 100 < a.size ∧ a.size ≤ 4611686018427387904) (hBb : 100 < b.size ∧ b.size ≤ 4611686018427387904) : Calls Tryz.prog 3 #[.string a, .string b] w fun e w' => e = .returned (.bool true) ∧ Below w.heap.size w w' := by
  go_enter Tryz.func3, Tryz.ntmps3
  go_wp2_with fail
  go_loopw [5, 7] (fun xv iv wr => ∃ i : Nat, i ≤ a.size ∧ i ≤ 100 ∧ iv = .int .i64 (i : Int) ∧ xv = .string (S (bx a.data.toList i)) ∧ Hid (Below w.heap.size w wr)) (fun _ iv _ => 100 - (intOf iv).toNat)
  case atStart => exact ⟨0, Nat.zero_le _, Nat.zero_le _, rfl, rfl, Below.refl _ _⟩
  case round =>
    obtain ⟨i, hle, hle2, rfl, rfl, hB⟩ := hrel
    have i0 : (0 : Int) ≤ (i : Int) := Int.natCast_nonneg _
    by_cases hlt : i < a.size ∧ i < 100
    · obtain ⟨hl1, hl2⟩ := hlt
      have i2 : (i : Int) < (a.size : Int) := by omega
      have i3 : (i : Int) < 100 := by omega
      have hsn := bx_snoc a i hl1
      have hxs := bx_size a.data.toList i hle2
      obtain ⟨X, hX⟩ : ∃ X, S (bx a.data.toList i) = X := ⟨_, rfl⟩
      obtain ⟨X', hX'⟩ : ∃ X', S (bx a.data.toList (i + 1)) = X' := ⟨_, rfl⟩
      rw [hX, hX'] at hsn
      rw [hX] at hxs ⊢
      have hcv := one_back wr (a[i]'hl1)
      have hz1 : ¬ X.size + (S [MtBitM.dg (a[i]'hl1)]).size > 9223372036854775807 := by rw [S_size]; simp; omega
      have hX2 : Hid (S (bx a.data.toList (i + 1)) = X') := hX'
      have hl1' : Hid (i < 100) := hl2
      have hl2' : Hid (i < a.size) := hl1
      have hB2 : Hid (Below w.heap.size w (wr.alloc (.cells #[.int .u8 (48 + ((a[i]'hl1).toNat : Int) % 2)] 5))) := hB.out.alloc hB.out.size _
      clear hX hX' hxs hle hle2 hl2 hB
      go_wp2_with fail
      go_roundw
      case rel => exact ⟨i + 1, hl2'.out, hl1'.out, by simp, by rw [hX2.out], hB2⟩
      case measure => have := hl1'.out; simp [intOf]; omega
    · obtain rfl : i = 100 := by omega
      have z1 : (100 : Int) < (a.size : Int) := by omega
      clear hlt hle hle2
      go_wp2_with fail
      go_loopw [6, 8] (fun xv iv wr => ∃ i : Nat, i ≤ b.size ∧ i ≤ 100 ∧ iv = .int .i64 (i : Int) ∧ xv = .string (S (bx b.data.toList i)) ∧ Hid (Below w.heap.size w wr)) (fun _ iv _ => 100 - (intOf iv).toNat)
      case atStart => exact ⟨0, Nat.zero_le _, Nat.zero_le _, rfl, rfl, hB⟩
      case round =>
        obtain ⟨i, hle, hle2, rfl, rfl, hB⟩ := hrel
        have i0 : (0 : Int) ≤ (i : Int) := Int.natCast_nonneg _
        by_cases hlt : i < b.size ∧ i < 100
        · obtain ⟨hl1, hl2⟩ := hlt
          have i2 : (i : Int) < (b.size : Int) := by omega
          have i3 : (i : Int) < 100 := by omega
          have hsn := bx_snoc b i hl1
          have hxs := bx_size b.data.toList i hle2
          obtain ⟨X, hX⟩ : ∃ X, S (bx b.data.toList i) = X := ⟨_, rfl⟩
          obtain ⟨X', hX'⟩ : ∃ X', S (bx b.data.toList (i + 1)) = X' := ⟨_, rfl⟩
          rw [hX, hX'] at hsn
          rw [hX] at hxs ⊢
          have hcv := one_back wr (b[i]'hl1)
          have hz1 : ¬ X.size + (S [MtBitM.dg (b[i]'hl1)]).size > 9223372036854775807 := by rw [S_size]; simp; omega
          have hX2 : Hid (S (bx b.data.toList (i + 1)) = X') := hX'
          have hl1' : Hid (i < 100) := hl2
          have hl2' : Hid (i < b.size) := hl1
          have hB2 : Hid (Below w.heap.size w (wr.alloc (.cells #[.int .u8 (48 + ((b[i]'hl1).toNat : Int) % 2)] 5))) := hB.out.alloc hB.out.size _
          clear hX hX' hxs hle hle2 hl2 hB
          go_wp2_with fail
          go_roundw
          case rel => exact ⟨i + 1, hl2'.out, hl1'.out, by simp, by rw [hX2.out], hB2⟩
          case measure => have := hl1'.out; simp [intOf]; omega
        · obtain rfl : i = 100 := by omega
          have z1 : (100 : Int) < (b.size : Int) := by omega
          clear hlt hle hle2
          obtain ⟨p, hp⟩ : ∃ p, (a.data.toList.take 100).map MtBitM.dg = p := ⟨_, rfl⟩
          obtain ⟨q, hq⟩ : ∃ q, (b.data.toList.take 100).map MtBitM.dg = q := ⟨_, rfl⟩
          have hpl : p.length ≤ 100 := by rw [← hp, List.length_map, List.length_take]; omega
          have hql : q.length ≤ 100 := by rw [← hq, List.length_map, List.length_take]; omega
          obtain ⟨X, Y, XB, YB, Xb, X2, Xs, bq, t, x1, x2, x3, x4, x5, x6, x7, x8, x9, x10, hT, hE1, hR, hE2, hE3, hE4⟩ := bits_pack p q (by rw [← hp]; exact MtBitM.dg_01 _) (by rw [← hq]; exact MtBitM.dg_01 _) hpl hql
          rw [show S (bx a.data.toList 100) = X from by unfold bx; rw [hp]; exact x1, show S (bx b.data.toList 100) = Y from by unfold bx; rw [hq]; exact x2]
          have n1 : ¬ X.size + 2 > 9223372036854775807 := by omega
          have n2 : ¬ Y.size + 2 > 9223372036854775807 := by omega
          have n3 : ¬ X.size + 3 > 9223372036854775807 := by omega
          have n4 : ¬ X.size + 1 > 9223372036854775807 := by omega
          clear hp hq hpl hql x1 x2 x8 x9 hA hBb
          go_wp2_with (first | (go_at_call 6; refine (hE1 _).out.mono ?_; clear hE1; rintro e w1 ⟨rfl, hb1⟩) | (go_at_call 7; refine (hT _).out.mono ?_; rintro e w' ⟨rfl, rfl⟩) | (go_at_call 8; refine (hR _).out.mono ?_; rintro e w2 ⟨rfl, hb2⟩) | (go_at_call 6; refine (hE2 _).out.mono ?_; clear hE2; rintro e w3 ⟨rfl, hb3⟩) | (go_at_call 6; refine (hE3 _).out.mono ?_; clear hE3; rintro e w4 ⟨rfl, hb4⟩) | (go_at_call 6; refine (hE4 _).out.mono ?_; clear hE4; rintro e w5 ⟨rfl, hb5⟩))
          go_ret
          refine ⟨by first | rfl | simp, ?_⟩
          have k1 := hB.out.trans (hb1.mono hB.out.size)
          have k2 := k1.trans (hb2.mono k1.size)
          have k3 := k2.trans (hb3.mono k2.size)
          have k4 := k3.trans (hb4.mono k3.size)
          exact k4.trans (hb5.mono k4.size)
theorem matchBits_walk (a b : ByteArray) (w : World) (ha : a.size ≤ 4611686018427387904) (hb : b.size ≤ 4611686018427387904) : Calls Tryz.prog 3 #[.string a, .string b] w fun e w' => e = .returned (.bool true) ∧ Below w.heap.size w w' := by
  rcases (by omega : a.size ≤ 100 ∨ 100 < a.size) with hA | hA <;> rcases (by omega : b.size ≤ 100 ∨ 100 < b.size) with hB | hB
  · exact matchBits_SS a b w hA hB
  · exact matchBits_SL a b w hA ⟨hB, hb⟩
  · exact matchBits_LS a b w ⟨hA, ha⟩ hB
  · exact matchBits_LL a b w ⟨hA, ha⟩ ⟨hB, hb⟩
end Go.Proofs.YtjokpcggdaoleaaGreatDoor
