import Derived.Test.YtjokpcggdaoleaaGreatDoorMtLngL
namespace Go.Proofs.YtjokpcggdaoleaaGreatDoor
open Go.RowKit
set_option linter.unusedVariables false

/-- The digits of a text's first bytes. -/
def lx (l : List UInt8) (i : Nat) : List UInt8 := 49 :: (l.take i).map dgT
theorem lx_snoc (s : ByteArray) (i : Nat) (h : i < s.size) : S (lx s.data.toList i) ++ S [dgT s[i]] = S (lx s.data.toList (i + 1)) := by
  rw [S_app]
  unfold lx
  rw [take_snoc s i h]
  simp
theorem lx_size (l : List UInt8) (i : Nat) (h : i ≤ 200) : (S (lx l i)).size ≤ 201 := by
  rw [S_size]
  unfold lx
  simp
  omega
theorem dgT_int (c : UInt8) : (48 + (c.toNat : Int) % 10) = ((dgT c).toNat : Int) := by rw [dgT_val]; omega
theorem one_backT (w : World) (c : UInt8) : (convert 22 9 (.slice (some ⟨w.heap.size, 0, none⟩) 1 1)).run Tryz.prog (w.alloc (.cells #[.int .u8 (48 + (c.toNat : Int) % 10)] 5)) = .ok (.string (S [dgT c])) (w.alloc (.cells #[.int .u8 (48 + (c.toNat : Int) % 10)] 5)) := by
  rw [dgT_int]
  refine conv_back (P := Tryz.prog) _ _ _ _ w.heap.size 1 1 [dgT c] Tryz.underlying22 Tryz.underlying5 Tryz.underlying9 rfl ?_
  intro j hj
  have : j = 0 := by simp at hj; omega
  subst this
  simp [go_sem]
/-- Digits with zeros behind. -/
def ex (l : List UInt8) (i : Nat) : List UInt8 := 49 :: (l ++ List.replicate i 48)
theorem ex_snoc (l : List UInt8) (i : Nat) : S (ex l i) ++ (⟨#[48]⟩ : ByteArray) = S (ex l (i + 1)) := by
  have : S (ex l i) ++ (⟨#[48]⟩ : ByteArray) = S (ex l i ++ [48]) := S_app _ [48]
  rw [this]
  unfold ex
  rw [List.replicate_succ']
  simp
theorem ex_size (l : List UInt8) (i : Nat) (h : i ≤ 50) (hl : l.length ≤ 200) : (S (ex l i)).size ≤ 251 := by
  rw [S_size]
  unfold ex
  simp
  omega

set_option maxRecDepth 100000 in
set_option maxHeartbeats 4000000 in
theorem matchLong_S (a : ByteArray) (m : Int) (w : World) (ev : Value) (hev : IsI ev) (hE : ErrV ev w) (hA : a.size ≤ 200) : Calls Tryz.prog 4 #[.string a, .int .i64 m] w fun e w' => e = .returned (.bool true) ∧ Below w.heap.size w w' := by
  go_enter Tryz.func4, Tryz.ntmps4
  go_wp2_with fail
  go_loopw [5, 6] (fun xv iv wr => ∃ i : Nat, i ≤ a.size ∧ i ≤ 200 ∧ iv = .int .i64 (i : Int) ∧ xv = .string (S (lx a.data.toList i)) ∧ Hid (Below w.heap.size w wr)) (fun _ iv _ => 200 - (intOf iv).toNat)
  case atStart => exact ⟨0, Nat.zero_le _, Nat.zero_le _, rfl, rfl, Below.refl _ _⟩
  case round =>
    obtain ⟨i, hle, hle2, rfl, rfl, hB⟩ := hrel
    have i0 : (0 : Int) ≤ (i : Int) := Int.natCast_nonneg _
    by_cases hlt : i < a.size ∧ i < 200
    · obtain ⟨hl1, hl2⟩ := hlt
      have i2 : (i : Int) < (a.size : Int) := by omega
      have i3 : (i : Int) < 200 := by omega
      have hsn := lx_snoc a i hl1
      have hxs := lx_size a.data.toList i hle2
      obtain ⟨X, hX⟩ : ∃ X, S (lx a.data.toList i) = X := ⟨_, rfl⟩
      obtain ⟨X', hX'⟩ : ∃ X', S (lx a.data.toList (i + 1)) = X' := ⟨_, rfl⟩
      rw [hX, hX'] at hsn
      rw [hX] at hxs ⊢
      have hcv := one_backT wr (a[i]'hl1)
      have hz1 : ¬ X.size + (S [dgT (a[i]'hl1)]).size > 9223372036854775807 := by rw [S_size]; simp; omega
      have hX2 : Hid (S (lx a.data.toList (i + 1)) = X') := hX'
      have hl1' : Hid (i < 200) := hl2
      have hl2' : Hid (i < a.size) := hl1
      have hB2 : Hid (Below w.heap.size w (wr.alloc (.cells #[.int .u8 (48 + ((a[i]'hl1).toNat : Int) % 10)] 5))) := hB.out.alloc hB.out.size _
      clear hX hX' hxs hle hle2 hl2 hB
      go_wp2_with fail
      go_roundw
      case rel => exact ⟨i + 1, hl2'.out, hl1'.out, by simp, by rw [hX2.out], hB2⟩
      case measure => have := hl1'.out; simp [intOf]; omega
    · obtain rfl : i = a.size := by omega
      clear hlt hle hle2
      obtain ⟨p, hp⟩ : ∃ p, (a.data.toList.take a.size).map dgT = p := ⟨_, rfl⟩
      have hpl : p.length ≤ 200 := by rw [← hp, List.length_map, List.length_take]; omega
      have hd : dig p := by rw [← hp]; exact dgT_dig _
      have x1' : S (lx a.data.toList a.size) = S (49 :: p) := by unfold lx; rw [hp]
      have x0' : S (lx a.data.toList a.size) = S (ex p 0) := by rw [x1']; unfold ex; simp
      clear hp
      have hpl' : Hid (p.length ≤ 200) := hpl
      go_wp2_with fail
      go_loopw [7, 8] (fun xv iv wr => ∃ j : Nat, j ≤ 50 ∧ iv = .int .i64 (j : Int) ∧ xv = .string (S (ex p j)) ∧ Hid (Below w.heap.size w wr)) (fun _ iv _ => 50 - (intOf iv).toNat)
      case atStart => exact ⟨0, Nat.zero_le _, rfl, by rw [x0'], hB⟩
      case round =>
        obtain ⟨j, hj2, rfl, rfl, hB2⟩ := hrel
        have j0 : (0 : Int) ≤ (j : Int) := Int.natCast_nonneg _
        have hsn := ex_snoc p j
        have hxs := ex_size p j hj2 hpl'.out
        by_cases hr : (j : Int) < Int.tmod m 50
        · have hj3 : j + 1 ≤ 50 := by have := Int.tmod_lt_of_pos m (show (0 : Int) < 50 by decide); omega
          obtain ⟨X, hX⟩ : ∃ X, S (ex p j) = X := ⟨_, rfl⟩
          obtain ⟨X', hX'⟩ : ∃ X', S (ex p (j + 1)) = X' := ⟨_, rfl⟩
          rw [hX, hX'] at hsn
          rw [hX] at hxs ⊢
          have hz1 : ¬ X.size + 1 > 9223372036854775807 := by omega
          have hX2 : Hid (S (ex p (j + 1)) = X') := hX'
          have hj3' : Hid (j + 1 ≤ 50) := hj3
          have j3 : (j : Int) < 50 := by omega
          clear hX hX' hxs hj2 hj3
          go_wp2_with fail
          go_roundw
          case rel => exact ⟨j + 1, hj3'.out, by simp, by rw [hX2.out], hB2⟩
          case measure => have := hj3'.out; simp [intOf]; omega
        · by_cases hj0 : j = 0
          · subst hj0
            obtain ⟨X, hX⟩ : ∃ X, S (ex p 0) = X := ⟨_, rfl⟩
            obtain ⟨X', hX'⟩ : ∃ X', S (ex p (0 + 1)) = X' := ⟨_, rfl⟩
            rw [hX, hX'] at hsn
            rw [hX] at hxs ⊢
            have hz1 : ¬ X.size + 1 > 9223372036854775807 := by omega
            have hX2 : Hid (S (ex p (0 + 1)) = X') := hX'
            have hr' : ¬ (0 : Int) < Int.tmod m 50 := by simpa using hr
            clear hX hX' hxs hj2 hr
            go_wp2_with fail
            go_roundw
            case rel => exact ⟨1, by omega, by simp, by rw [← hX2.out], hB2⟩
            case measure => simp [intOf]
          · have hj1 : 1 ≤ j := by omega
            have hr1 : ¬ (j : Int) < 1 := by omega
            clear hj0 hsn hxs hpl'
            obtain ⟨D, E, ND, NE, ZD, L9, L, x1, x2, x3, x4, x5, x6, x7, x8, x9, x10, hE1, hE2, hE3, hE4, hE5, hE6, hE7, hR1, hR2, hR3⟩ := long_pack p j hd hpl hj1 hj2 ev hev
            rw [show S (ex p j) = E from x2]
            rw [show S (lx a.data.toList a.size) = D from x1'.trans x1]
            have n1 : ¬ 1 + E.size > 9223372036854775807 := by omega
            have n2 : ¬ 1 + D.size > 9223372036854775807 := by omega
            have n3 : ¬ L9.size + 18 > 9223372036854775807 := by omega
            have o0 : Hid (Below w.heap.size w wr) := hB2
            have hE' : Hid (ErrV ev w) := hE
            clear x1 x2 x1' x8 x9 x10 hd hpl hj1 hj2 hB2 hE hev
            go_wp2_with fail
            refine (hE1 _).out.mono ?_
            rintro e w1 ⟨rfl, hb⟩
            have o1 : Hid (Below w.heap.size w w1) := o0.out.trans (hb.mono o0.out.size)
            clear hb hE1 
            go_wp2_with fail
            refine (hE2 _).out.mono ?_
            rintro e w2 ⟨rfl, hb⟩
            have o2 : Hid (Below w.heap.size w w2) := o1.out.trans (hb.mono o1.out.size)
            clear hb hE2 
            go_wp2_with fail
            refine (hE3 _).out.mono ?_
            rintro e w3 ⟨rfl, hb⟩
            have o3 : Hid (Below w.heap.size w w3) := o2.out.trans (hb.mono o2.out.size)
            clear hb hE3 
            go_wp2_with fail
            refine (hE4 _).out.mono ?_
            rintro e w4 ⟨rfl, hb⟩
            have o4 : Hid (Below w.heap.size w w4) := o3.out.trans (hb.mono o3.out.size)
            clear hb hE4 
            go_wp2_with fail
            refine (hE5 _).out.mono ?_
            rintro e w5 ⟨rfl, hb⟩
            have o5 : Hid (Below w.heap.size w w5) := o4.out.trans (hb.mono o4.out.size)
            clear hb hE5 
            go_wp2_with fail
            refine (hE6 _).out.mono ?_
            rintro e w6 ⟨rfl, hb⟩
            have o6 : Hid (Below w.heap.size w w6) := o5.out.trans (hb.mono o5.out.size)
            clear hb hE6 
            go_wp2_with fail
            refine (hE7 _).out.mono ?_
            rintro e w7 ⟨rfl, hb⟩
            have o7 : Hid (Below w.heap.size w w7) := o6.out.trans (hb.mono o6.out.size)
            clear hb hE7 
            go_wp2_with fail
            refine (hR1 _ (hE'.out.below' o7.out)).out.mono ?_
            rintro e w8 ⟨rfl, hb⟩
            have o8 : Hid (Below w.heap.size w w8) := o7.out.trans (hb.mono o7.out.size)
            clear hb hR1 
            go_wp2_with fail
            refine (hR2 _ (hE'.out.below' o8.out)).out.mono ?_
            rintro e w9 ⟨rfl, hb⟩
            have o9 : Hid (Below w.heap.size w w9) := o8.out.trans (hb.mono o8.out.size)
            clear hb hR2 
            go_wp2_with fail
            refine (hR3 _).out.mono ?_
            rintro e w10 ⟨rfl, hb⟩
            have o10 : Hid (Below w.heap.size w w10) := o9.out.trans (hb.mono o9.out.size)
            clear hb hR3 
            go_wp2_with fail
            go_ret
            exact ⟨by first | rfl | simp, o10.out⟩
set_option maxRecDepth 100000 in
set_option maxHeartbeats 4000000 in
theorem matchLong_L (a : ByteArray) (m : Int) (w : World) (ev : Value) (hev : IsI ev) (hE : ErrV ev w) (hA : 200 < a.size ∧ a.size ≤ 4611686018427387904) : Calls Tryz.prog 4 #[.string a, .int .i64 m] w fun e w' => e = .returned (.bool true) ∧ Below w.heap.size w w' := by
  go_enter Tryz.func4, Tryz.ntmps4
  go_wp2_with fail
  go_loopw [5, 6] (fun xv iv wr => ∃ i : Nat, i ≤ a.size ∧ i ≤ 200 ∧ iv = .int .i64 (i : Int) ∧ xv = .string (S (lx a.data.toList i)) ∧ Hid (Below w.heap.size w wr)) (fun _ iv _ => 200 - (intOf iv).toNat)
  case atStart => exact ⟨0, Nat.zero_le _, Nat.zero_le _, rfl, rfl, Below.refl _ _⟩
  case round =>
    obtain ⟨i, hle, hle2, rfl, rfl, hB⟩ := hrel
    have i0 : (0 : Int) ≤ (i : Int) := Int.natCast_nonneg _
    by_cases hlt : i < a.size ∧ i < 200
    · obtain ⟨hl1, hl2⟩ := hlt
      have i2 : (i : Int) < (a.size : Int) := by omega
      have i3 : (i : Int) < 200 := by omega
      have hsn := lx_snoc a i hl1
      have hxs := lx_size a.data.toList i hle2
      obtain ⟨X, hX⟩ : ∃ X, S (lx a.data.toList i) = X := ⟨_, rfl⟩
      obtain ⟨X', hX'⟩ : ∃ X', S (lx a.data.toList (i + 1)) = X' := ⟨_, rfl⟩
      rw [hX, hX'] at hsn
      rw [hX] at hxs ⊢
      have hcv := one_backT wr (a[i]'hl1)
      have hz1 : ¬ X.size + (S [dgT (a[i]'hl1)]).size > 9223372036854775807 := by rw [S_size]; simp; omega
      have hX2 : Hid (S (lx a.data.toList (i + 1)) = X') := hX'
      have hl1' : Hid (i < 200) := hl2
      have hl2' : Hid (i < a.size) := hl1
      have hB2 : Hid (Below w.heap.size w (wr.alloc (.cells #[.int .u8 (48 + ((a[i]'hl1).toNat : Int) % 10)] 5))) := hB.out.alloc hB.out.size _
      clear hX hX' hxs hle hle2 hl2 hB
      go_wp2_with fail
      go_roundw
      case rel => exact ⟨i + 1, hl2'.out, hl1'.out, by simp, by rw [hX2.out], hB2⟩
      case measure => have := hl1'.out; simp [intOf]; omega
    · obtain rfl : i = 200 := by omega
      have z1 : (200 : Int) < (a.size : Int) := by omega
      clear hlt hle hle2
      obtain ⟨p, hp⟩ : ∃ p, (a.data.toList.take 200).map dgT = p := ⟨_, rfl⟩
      have hpl : p.length ≤ 200 := by rw [← hp, List.length_map, List.length_take]; omega
      have hd : dig p := by rw [← hp]; exact dgT_dig _
      have x1' : S (lx a.data.toList 200) = S (49 :: p) := by unfold lx; rw [hp]
      have x0' : S (lx a.data.toList 200) = S (ex p 0) := by rw [x1']; unfold ex; simp
      clear hp
      have hpl' : Hid (p.length ≤ 200) := hpl
      go_wp2_with fail
      go_loopw [7, 8] (fun xv iv wr => ∃ j : Nat, j ≤ 50 ∧ iv = .int .i64 (j : Int) ∧ xv = .string (S (ex p j)) ∧ Hid (Below w.heap.size w wr)) (fun _ iv _ => 50 - (intOf iv).toNat)
      case atStart => exact ⟨0, Nat.zero_le _, rfl, by rw [x0'], hB⟩
      case round =>
        obtain ⟨j, hj2, rfl, rfl, hB2⟩ := hrel
        have j0 : (0 : Int) ≤ (j : Int) := Int.natCast_nonneg _
        have hsn := ex_snoc p j
        have hxs := ex_size p j hj2 hpl'.out
        by_cases hr : (j : Int) < Int.tmod m 50
        · have hj3 : j + 1 ≤ 50 := by have := Int.tmod_lt_of_pos m (show (0 : Int) < 50 by decide); omega
          obtain ⟨X, hX⟩ : ∃ X, S (ex p j) = X := ⟨_, rfl⟩
          obtain ⟨X', hX'⟩ : ∃ X', S (ex p (j + 1)) = X' := ⟨_, rfl⟩
          rw [hX, hX'] at hsn
          rw [hX] at hxs ⊢
          have hz1 : ¬ X.size + 1 > 9223372036854775807 := by omega
          have hX2 : Hid (S (ex p (j + 1)) = X') := hX'
          have hj3' : Hid (j + 1 ≤ 50) := hj3
          have j3 : (j : Int) < 50 := by omega
          clear hX hX' hxs hj2 hj3
          go_wp2_with fail
          go_roundw
          case rel => exact ⟨j + 1, hj3'.out, by simp, by rw [hX2.out], hB2⟩
          case measure => have := hj3'.out; simp [intOf]; omega
        · by_cases hj0 : j = 0
          · subst hj0
            obtain ⟨X, hX⟩ : ∃ X, S (ex p 0) = X := ⟨_, rfl⟩
            obtain ⟨X', hX'⟩ : ∃ X', S (ex p (0 + 1)) = X' := ⟨_, rfl⟩
            rw [hX, hX'] at hsn
            rw [hX] at hxs ⊢
            have hz1 : ¬ X.size + 1 > 9223372036854775807 := by omega
            have hX2 : Hid (S (ex p (0 + 1)) = X') := hX'
            have hr' : ¬ (0 : Int) < Int.tmod m 50 := by simpa using hr
            clear hX hX' hxs hj2 hr
            go_wp2_with fail
            go_roundw
            case rel => exact ⟨1, by omega, by simp, by rw [← hX2.out], hB2⟩
            case measure => simp [intOf]
          · have hj1 : 1 ≤ j := by omega
            have hr1 : ¬ (j : Int) < 1 := by omega
            clear hj0 hsn hxs hpl'
            obtain ⟨D, E, ND, NE, ZD, L9, L, x1, x2, x3, x4, x5, x6, x7, x8, x9, x10, hE1, hE2, hE3, hE4, hE5, hE6, hE7, hR1, hR2, hR3⟩ := long_pack p j hd hpl hj1 hj2 ev hev
            rw [show S (ex p j) = E from x2]
            rw [show S (lx a.data.toList 200) = D from x1'.trans x1]
            have n1 : ¬ 1 + E.size > 9223372036854775807 := by omega
            have n2 : ¬ 1 + D.size > 9223372036854775807 := by omega
            have n3 : ¬ L9.size + 18 > 9223372036854775807 := by omega
            have o0 : Hid (Below w.heap.size w wr) := hB2
            have hE' : Hid (ErrV ev w) := hE
            clear x1 x2 x1' x8 x9 x10 hd hpl hj1 hj2 hB2 hE hev
            go_wp2_with fail
            refine (hE1 _).out.mono ?_
            rintro e w1 ⟨rfl, hb⟩
            have o1 : Hid (Below w.heap.size w w1) := o0.out.trans (hb.mono o0.out.size)
            clear hb hE1 
            go_wp2_with fail
            refine (hE2 _).out.mono ?_
            rintro e w2 ⟨rfl, hb⟩
            have o2 : Hid (Below w.heap.size w w2) := o1.out.trans (hb.mono o1.out.size)
            clear hb hE2 
            go_wp2_with fail
            refine (hE3 _).out.mono ?_
            rintro e w3 ⟨rfl, hb⟩
            have o3 : Hid (Below w.heap.size w w3) := o2.out.trans (hb.mono o2.out.size)
            clear hb hE3 
            go_wp2_with fail
            refine (hE4 _).out.mono ?_
            rintro e w4 ⟨rfl, hb⟩
            have o4 : Hid (Below w.heap.size w w4) := o3.out.trans (hb.mono o3.out.size)
            clear hb hE4 
            go_wp2_with fail
            refine (hE5 _).out.mono ?_
            rintro e w5 ⟨rfl, hb⟩
            have o5 : Hid (Below w.heap.size w w5) := o4.out.trans (hb.mono o4.out.size)
            clear hb hE5 
            go_wp2_with fail
            refine (hE6 _).out.mono ?_
            rintro e w6 ⟨rfl, hb⟩
            have o6 : Hid (Below w.heap.size w w6) := o5.out.trans (hb.mono o5.out.size)
            clear hb hE6 
            go_wp2_with fail
            refine (hE7 _).out.mono ?_
            rintro e w7 ⟨rfl, hb⟩
            have o7 : Hid (Below w.heap.size w w7) := o6.out.trans (hb.mono o6.out.size)
            clear hb hE7 
            go_wp2_with fail
            refine (hR1 _ (hE'.out.below' o7.out)).out.mono ?_
            rintro e w8 ⟨rfl, hb⟩
            have o8 : Hid (Below w.heap.size w w8) := o7.out.trans (hb.mono o7.out.size)
            clear hb hR1 
            go_wp2_with fail
            refine (hR2 _ (hE'.out.below' o8.out)).out.mono ?_
            rintro e w9 ⟨rfl, hb⟩
            have o9 : Hid (Below w.heap.size w w9) := o8.out.trans (hb.mono o8.out.size)
            clear hb hR2 
            go_wp2_with fail
            refine (hR3 _).out.mono ?_
            rintro e w10 ⟨rfl, hb⟩
            have o10 : Hid (Below w.heap.size w w10) := o9.out.trans (hb.mono o9.out.size)
            clear hb hR3 
            go_wp2_with fail
            go_ret
            exact ⟨by first | rfl | simp, o10.out⟩
theorem matchLong_walk (a : ByteArray) (m : Int) (w : World) (ha : a.size ≤ 4611686018427387904) (ev : Value) (hev : IsI ev) (hE : ErrV ev w) : Calls Tryz.prog 4 #[.string a, .int .i64 m] w fun e w' => e = .returned (.bool true) ∧ Below w.heap.size w w' := by
  rcases (by omega : a.size ≤ 200 ∨ 200 < a.size) with hA | hA
  · exact matchLong_S a m w ev hev hE hA
  · exact matchLong_L a m w ev hev hE ⟨hA, ha⟩
end Go.Proofs.YtjokpcggdaoleaaGreatDoor
