import Derived.Test.YtgfonnjblbpogaaBhLng
namespace Go.Proofs.Ytgfonnjblbpogaa
open Go.RowKit
set_option linter.unusedVariables false

theorem s_two (x y : List UInt8) : S x ++ S y = S (x ++ y) := by refine S_eq _ _ ?_; rw [app_l, S_l, S_l]
set_option maxRecDepth 100000 in
set_option maxHeartbeats 2000000 in
theorem long_some (d : Int) (c : Nat) (m : Bool) (t : Nat) (s : ByteArray) (len k : Nat) (hc : c ≤ 3) (ht : t ≤ 30) (hl : len < 4294967296) (h1 : 1 ≤ k) (h4 : k ≤ 4) (w : World) :
    Calls Try.prog 34 #[.agg #[.int .i64 d, .int .i64 (c : Int), .bool m, .int .i64 (t : Int), .string s], .int .i64 (len : Int), .int .i64 (k : Int)] w fun e w' => e = .returned (.string (S (hdrL c m t len k))) ∧ Below w.heap.size w w' := by
  obtain ⟨t1, t2, t3⟩ := tag_wrap c t hc ht
  have hh : Hid (hdrL c m t len k = [fb c m t, UInt8.ofNat (128 + k)] ++ beN k len) := by unfold Hid hdrL; rw [if_neg (by omega)]; rfl
  have e1 : Hid ((c : Int) * 64 + (t : Int) = ((fb c false t).toNat : Int)) := fb_plain c t hc ht
  have e2 : Hid ((c : Int) * 64 + (t : Int) + 32 = ((fb c true t).toNat : Int)) := fb_made c t hc ht
  have e3 : Hid ((128 : Int) + (k : Int) = ((UInt8.ofNat (128 + k)).toNat : Int)) := by
    have := byte_n (128 + k) (by omega)
    unfold Hid
    rw [← this]
    omega
  have k1 : wrap64 (128 + (k : Int)) = 128 + (k : Int) := by unfold wrap64; omega
  have k2 : IntKind.u8.wrap (128 + (k : Int)) = 128 + (k : Int) := by
    have := u8_small (128 + k) (by omega)
    rw [show ((128 + k : Nat) : Int) = 128 + (k : Int) by omega] at this
    exact this
  have k3 : ((k : Int) == 0) = false := by rw [beq_eq_false_iff_ne]; omega
  have k4 : ¬ (k : Int) = 0 := by omega
  have hB : Hid (Below w.heap.size w (w.alloc (.cells #[.int .i64 d, .int .i64 (c : Int), .bool m, .int .i64 (t : Int), .string s] 39))) := (Below.refl _ _).alloc (Nat.le_refl _) _
  have hk : Hid (1 ≤ k ∧ k ≤ 4 ∧ len < 4294967296) := ⟨h1, h4, hl⟩
  have hct : Hid (c ≤ 3 ∧ t ≤ 30) := ⟨hc, ht⟩
  clear h1 h4 hl hc ht
  cases m
  all_goals
    go_enter Try.func34, Try.ntmps34
    go_wp2_with fail
    go_loopw [1, 8, 9] (fun lv sv iv wr => ∃ j : Nat, j ≤ k ∧ lv = .int .i64 ((len / 256 ^ j : Nat) : Int) ∧ sv = .string (S (beN j len)) ∧ iv = .int .i64 (j : Int) ∧ Hid (Below w.heap.size w wr)) (fun _ _ iv _ => k - (intOf iv).toNat)
    case atStart => exact ⟨0, Nat.zero_le _, by simp, rfl, rfl, hB⟩
    case round =>
      obtain ⟨j, hj, rfl, rfl, rfl, HB⟩ := hrel
      have i0 : (0 : Int) ≤ (j : Int) := Int.natCast_nonneg _
      by_cases hlt : j < k
      · have i1 : (j : Int) < (k : Int) := Int.ofNat_lt.2 hlt
        have hlt' : Hid (j < k) := hlt
        have hLb : len / 256 ^ j ≤ len := Nat.div_le_self _ _
        have hnext : Hid (len / 256 ^ j / 256 = len / 256 ^ (j + 1)) := by unfold Hid; rw [Nat.div_div_eq_div_mul, Nat.pow_succ]
        have hbe : Hid (beN (j + 1) len = [UInt8.ofNat (len / 256 ^ j % 256)] ++ beN j len) := beN_ahead j len
        have hbl : Hid ((beN j len).length = j) := beN_len j len
        obtain ⟨L, hL⟩ : ∃ L, len / 256 ^ j = L := ⟨_, rfl⟩
        rw [hL] at hLb hnext hbe ⊢
        have m1 : (L : Int).tmod 256 = ((L % 256 : Nat) : Int) := by rw [Int.tmod_eq_emod_of_nonneg (by omega)]; omega
        have m2 : (L : Int).tdiv 256 = ((L / 256 : Nat) : Int) := by rw [Int.tdiv_eq_ediv_of_nonneg (by omega)]; omega
        obtain ⟨r, hr⟩ : ∃ r, L % 256 = r := ⟨_, rfl⟩
        rw [hr] at m1 hbe
        have hr2 : r < 256 := by omega
        have u1 : IntKind.u8.wrap (r : Int) = (r : Int) := u8_small r hr2
        have e4 : Hid ((r : Int) = ((UInt8.ofNat r).toNat : Int)) := byte_n r hr2
        have hX : Hid (S [UInt8.ofNat r] ++ S (beN j len) = S (beN (j + 1) len)) := by unfold Hid; rw [s_two, hbe.out]
        have sz : ¬ (S [UInt8.ofNat r]).size + (S (beN j len)).size > 9223372036854775807 := by rw [S_size, S_size, hbl.out]; have := hk.out; simp; omega
        have kw : wrap64 ((j : Int) + 1) = (j : Int) + 1 := by have := hk.out; unfold wrap64; omega
        have hLl : Hid (L ≤ len) := hLb
        generalize S (beN j len) = Y at *
        clear hL hr hLb hbe hbl hlt hj hr2
        go_wp2_with fail
        rw [show (Value.int IntKind.u8 (r : Int)) = Value.int IntKind.u8 ((UInt8.ofNat r).toNat : Int) from by rw [← e4.out], one_back _ _ rfl]
        obtain ⟨X, hXX⟩ : ∃ X, S [UInt8.ofNat r] = X := ⟨_, rfl⟩
        rw [hXX] at sz hX ⊢
        clear m1 u1 k1 k2 k3 k4 t1 t2 t3 hXX
        go_wp2_with fail
        refine ⟨⟨j + 1, hlt'.out, ?_, by rw [hX.out], ?_, by unfold Hid; exact HB.out.alloc HB.out.size _⟩, ?_⟩
        · rw [← hnext.out]
          exact congrArg (Value.int .i64) (by have := hk.out; have := hLl.out; unfold wrap64; omega)
        · exact congrArg (Value.int .i64) (by rw [kw]; omega)
        · rw [kw]
          have := hlt'.out
          simp [intOf]
          omega
      · obtain rfl : j = k := by omega
        have i1 : ¬ (j : Int) < (j : Int) := by omega
        have szA : ∀ x : UInt8, ¬ (S [x, UInt8.ofNat (128 + j)]).size + (S (beN j len)).size > 9223372036854775807 := fun x => by rw [S_size, S_size, beN_len]; have := hk.out; simp; omega
        have hX : Hid (∀ x, S [x, UInt8.ofNat (128 + j)] ++ S (beN j len) = S ([x, UInt8.ofNat (128 + j)] ++ beN j len)) := fun x => s_two _ _
        have szA' : Hid (∀ x : UInt8, ¬ (S [x, UInt8.ofNat (128 + j)]).size + (S (beN j len)).size > 9223372036854775807) := szA
        obtain ⟨hc, ht⟩ := hct.out
        clear szA
        generalize S (beN j len) = Y at *
        clear hj hlt hB
        go_wp2_with fail
        first
          | rw [show (Value.int IntKind.u8 ((c : Int) * 64 + (t : Int) + 32)) = Value.int IntKind.u8 ((fb c true t).toNat : Int) from by rw [e2.out], show (Value.int IntKind.u8 (128 + (j : Int))) = Value.int IntKind.u8 ((UInt8.ofNat (128 + j)).toNat : Int) from by rw [e3.out], two_back _ _ rfl]
          | rw [show (Value.int IntKind.u8 ((c : Int) * 64 + (t : Int))) = Value.int IntKind.u8 ((fb c false t).toNat : Int) from by rw [e1.out], show (Value.int IntKind.u8 (128 + (j : Int))) = Value.int IntKind.u8 ((UInt8.ofNat (128 + j)).toNat : Int) from by rw [e3.out], two_back _ _ rfl]
        first
          | (have sz := szA'.out (fb c true t)
             have hXt := hX.out (fb c true t)
             generalize S [fb c true t, UInt8.ofNat (128 + j)] = X at sz hXt ⊢
             have hXt' : Hid (X ++ Y = S (hdrL c true t len j)) := by unfold Hid; rw [hXt, ← hh.out]
             clear hXt hX szA' e1 e2 e3 t1 t2 t3 k1 k2 k3 k4 hc ht
             go_wp2_with fail
             go_ret
             exact ⟨by rw [← hXt'.out]; rfl, HB.out.alloc HB.out.size _⟩)
          | (have sz := szA'.out (fb c false t)
             have hXt := hX.out (fb c false t)
             generalize S [fb c false t, UInt8.ofNat (128 + j)] = X at sz hXt ⊢
             have hXt' : Hid (X ++ Y = S (hdrL c false t len j)) := by unfold Hid; rw [hXt, ← hh.out]
             clear hXt hX szA' e1 e2 e3 t1 t2 t3 k1 k2 k3 k4 hc ht
             go_wp2_with fail
             go_ret
             exact ⟨by rw [← hXt'.out]; rfl, HB.out.alloc HB.out.size _⟩)
end Go.Proofs.Ytgfonnjblbpogaa
