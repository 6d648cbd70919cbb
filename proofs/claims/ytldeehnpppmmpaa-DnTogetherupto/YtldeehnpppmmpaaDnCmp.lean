import Derived.Test.YtldeehnpppmmpaaDnRow
namespace Go.Proofs.Ytldeehnpppmmpaa
open Go.RowKit
open DnMath (Tot lx tb tt ck tb_tot tt_tot ck_tot less_tt lx_front lx_between)
set_option linter.unusedVariables false

theorem toList_S (x : List UInt8) : (S x).toList = x := by rw [Lib.toList_data, S_l]
theorem ck_step (l k : List (List UInt8)) (i : Nat) (h1 : i < l.length) (h2 : i < k.length) : ck (l.drop i) (k.drop i) = if tt l[i] k[i] = 0 then ck (l.drop (i + 1)) (k.drop (i + 1)) else tt l[i] k[i] := by
  rw [List.drop_eq_getElem_cons h1, List.drop_eq_getElem_cons h2]
  rfl

set_option maxHeartbeats 400000 in
theorem isNaN_any (x : ByteArray) (w : World) : Calls Try.prog 32 #[.string x] w fun e w' => e = .returned (.bool false) ∧ w' = w := by
  go_enter Try.func32, Try.ntmps32
  go_wp2_with fail
  go_ret
  exact ⟨by simp, rfl⟩

set_option maxHeartbeats 400000 in
theorem cmpStr_any (x y : List UInt8) (w : World) : Calls Try.prog 31 #[.string (S x), .string (S y)] w fun e w' => e = .returned (.int .i64 (tt x y)) ∧ w' = w := by
  have n1 := isNaN_any (S x) w
  have n2 := isNaN_any (S y) w
  have hlt : Op.bytesLess (S x).toList (S y).toList = decide (tt x y = -1) := by rw [toList_S, toList_S, less_tt]
  by_cases hxy : x = y
  · subst hxy
    rw [tt_tot.self] at hlt ⊢
    have hlt' : Op.bytesLess (S x).toList (S x).toList = false := hlt
    clear hlt
    generalize S x = X at *
    go_enter Try.func31, Try.ntmps31
    go_wp2_with (first | (refine n1.mono ?_; rintro e w' ⟨rfl, rfl⟩) | (refine n2.mono ?_; rintro e w' ⟨rfl, rfl⟩))
    go_ret
    exact ⟨rfl, rfl⟩
  · have heq : ((S x).toList == (S y).toList) = false := by
      rw [toList_S, toList_S]
      simp [hxy]
    have hne : ¬ tt x y = 0 := fun q => hxy ((tt_tot.2.1 x y).1 q)
    have hr := tt_tot.1 x y
    generalize tt x y = t at *
    generalize S x = X at *
    generalize S y = Y at *
    go_enter Try.func31, Try.ntmps31
    rcases hr with rfl | rfl | rfl
    · have hlt' : Op.bytesLess X.toList Y.toList = true := hlt
      clear hlt hne
      go_wp2_with (first | (refine n1.mono ?_; rintro e w' ⟨rfl, rfl⟩) | (refine n2.mono ?_; rintro e w' ⟨rfl, rfl⟩))
      go_ret
      exact ⟨rfl, rfl⟩
    · exact absurd rfl hne
    · have hlt' : Op.bytesLess X.toList Y.toList = false := hlt
      clear hlt hne
      go_wp2_with (first | (refine n1.mono ?_; rintro e w' ⟨rfl, rfl⟩) | (refine n2.mono ?_; rintro e w' ⟨rfl, rfl⟩))
      go_ret
      exact ⟨rfl, rfl⟩

set_option maxHeartbeats 1000000 in
theorem slicesCompare_any (l k : List (List UInt8)) (a b : Option Addr) (c d : Nat) (w : World) (hl : l.length ≤ 9223372036854775807) (hk : k.length ≤ 9223372036854775807) (h1 : Row w a l) (h2 : Row w b k) :
    Calls Try.prog 25 #[.slice a l.length c, .slice b k.length d] w fun e w' => e = .returned (.int .i64 (ck l k)) ∧ w' = w := by
  go_enter Try.func25, Try.ntmps25
  go_wp2_with fail
  go_loopw [11] (fun iv wr => ∃ i : Nat, i ≤ l.length ∧ i ≤ k.length ∧ iv = .int .i64 (i : Int) ∧ Hid (ck (l.drop i) (k.drop i) = ck l k) ∧ w = wr) (fun iv _ => l.length - (intOf iv).toNat)
  case atStart => exact ⟨0, Nat.zero_le _, Nat.zero_le _, rfl, rfl, rfl⟩
  case round =>
    obtain ⟨i, hi, hik, rfl, hck, rfl⟩ := hrel
    by_cases hlt : i < l.length
    · obtain ⟨b1, o1, rfl, c1⟩ := h1 i hlt
      have i0 : (0 : Int) ≤ (i : Int) := Int.natCast_nonneg _
      have i1 : (i : Int) < (l.length : Int) := Int.ofNat_lt.2 hlt
      by_cases hlk : i < k.length
      · obtain ⟨b2, o2, rfl, c2⟩ := h2 i hlk
        have i2 : (i : Int) < (k.length : Int) := Int.ofNat_lt.2 hlk
        have hc := cmpStr_any l[i] k[i] w
        have hs := ck_step l k i hlt hlk
        rw [hck.out] at hs
        have hs' : Hid (ck l k = if tt l[i] k[i] = 0 then ck (l.drop (i + 1)) (k.drop (i + 1)) else tt l[i] k[i]) := hs
        clear hs
        generalize tt l[i] k[i] = t at *
        generalize S l[i] = X at *
        generalize S k[i] = Y at *
        by_cases ht : t = 0
        · subst ht
          go_wp2_with (refine hc.mono ?_; rintro e w' ⟨rfl, rfl⟩)
          go_roundw
          case rel => exact ⟨i + 1, hlt, hlk, by simp, by have := hs'.out; simp only [if_true] at this; exact this.symm, by trivial⟩
          case measure => simp [intOf]; omega
        · have ht' : ((t : Int) != 0) = true := by simp [ht]
          go_wp2_with (refine hc.mono ?_; rintro e w' ⟨rfl, rfl⟩)
          go_ret
          have := hs'.out
          rw [if_neg ht] at this
          rw [this]
          exact ⟨rfl, rfl⟩
      · have hke : i = k.length := by omega
        subst hke
        have hd : Hid (ck l k = 1) := by
          unfold Hid
          rw [← hck.out, List.drop_length, List.drop_eq_getElem_cons hlt]
          rfl
        clear hck
        go_wp2_with fail
        go_ret
        exact ⟨by rw [hd.out]; rfl, rfl⟩
    · have hle : i = l.length := by omega
      subst hle
      by_cases hlk : l.length < k.length
      · have hd : Hid (ck l k = -1) := by
          unfold Hid
          rw [← hck.out, List.drop_length, List.drop_eq_getElem_cons hlk]
          rfl
        clear hck
        have i2 : (l.length : Int) < (k.length : Int) := Int.ofNat_lt.2 hlk
        go_wp2_with fail
        go_ret
        exact ⟨by rw [hd.out]; rfl, rfl⟩
      · have hd : Hid (ck l k = 0) := by
          have e : l.length = k.length := by omega
          unfold Hid
          rw [← hck.out, List.drop_length, e, List.drop_length]
          rfl
        clear hck
        have i2 : ¬ (l.length : Int) < (k.length : Int) := fun q => hlk (Int.ofNat_lt.1 q)
        go_wp2_with fail
        go_ret
        exact ⟨by rw [hd.out]; rfl, rfl⟩

set_option maxHeartbeats 400000 in
theorem dnCompare_any (l k : List (List UInt8)) (a b : Option Addr) (c d : Nat) (w : World) (hl : l.length ≤ 9223372036854775807) (hk : k.length ≤ 9223372036854775807) (h1 : Row w a l) (h2 : Row w b k) :
    Calls Try.prog 11 #[.slice a l.length c, .slice b k.length d] w fun e w' => e = .returned (.int .i64 (ck l k)) ∧ w' = w := by
  have hc := slicesCompare_any l k a b c d w hl hk h1 h2
  go_enter Try.func11, Try.ntmps11
  go_wp2_with (refine hc.mono ?_; rintro e w' ⟨rfl, rfl⟩)
  go_ret
  exact ⟨rfl, rfl⟩
end Go.Proofs.Ytldeehnpppmmpaa
