import Derived.Test.YtilglidhlcmfbaaDoorUb1
namespace Go.Proofs.YtilglidhlcmfbaaDoor
open Go.RowKit
open TextMath (al grp b64 bo wv ch Gd gF dec)

theorem and15n (n m : Nat) (hn : n < 64) (hm : m = n % 16) : bits .and .i64 (n : Int) 15 = (m : Int) := by
  subst hm
  have e := i64_and n 15 (by omega) (by omega)
  rw [show (15 : Int) = ((15 : Nat) : Int) from rfl, e]
  congr 1
  have := Nat.and_two_pow_sub_one_eq_mod n 4
  simpa using this
theorem and3n (n m : Nat) (hn : n < 64) (hm : m = n % 4) : bits .and .i64 (n : Int) 3 = (m : Int) := by
  subst hm
  have e := i64_and n 3 (by omega) (by omega)
  rw [show (3 : Int) = ((3 : Nat) : Int) from rfl, e]
  congr 1
  have := Nat.and_two_pow_sub_one_eq_mod n 2
  simpa using this
theorem ne61 (b : UInt8) (h : b ≠ 61) : (((b.toNat : Nat) : Int) != 61) = true := by
  rw [bne_iff_ne]; intro e; apply h; apply UInt8.toNat_inj.1; have : (61 : UInt8).toNat = 61 := rfl; omega
theorem ge0 (b : UInt8) : decide ((0 : Int) ≤ bw b) = ch b := by
  cases h : ch b
  · rw [bw_no b h]; rfl
  · rw [bw_ch b h]; simp

/-- a byte that is no =, behind a front: padded or not -/
theorem Gd_snoc (f : List UInt8) (b : UInt8) (hg : Gd f = true) (hl : f.length ≤ 3) (hb : b ≠ 61) : Gd (f ++ [b]) = (!(f.getLast? == some 61) && ch b) := by
  have nb : (b == 61) = false := by simpa using hb
  match f, hg, hl with
  | [], _, _ => simp [Gd]
  | [x], hg, _ =>
    have hx := (TextMath.ch_wv x hg).2.2.2
    simp only [Gd] at hg
    simp [Gd, hg, hx]
  | [x, y], hg, _ =>
    simp only [Gd, Bool.and_eq_true] at hg
    have hy := (TextMath.ch_wv y hg.2).2.2.2
    simp [Gd, hg.1, hg.2, hy, nb]
  | [x, y, z], hg, _ =>
    simp only [Gd, Bool.and_eq_true] at hg
    cases hz : ch z
    · have hz61 : z = 61 := by have := hg.2; rw [hz] at this; simp at this; exact this.1
      subst hz61
      simp [Gd, hz, nb]
    · have hz61 := (TextMath.ch_wv z hz).2.2.2
      simp [Gd, hg.1.1, hg.1.2, hz, hz61, nb]
theorem Gd_pad0 : Gd ([] ++ [61]) = false := by decide
theorem Gd_pad1 (x : UInt8) : Gd ([x] ++ [61]) = false := by simp [Gd, TextMath.ch_pad]
theorem Gd_pad2 (x y : UInt8) (hg : Gd [x, y] = true) : Gd ([x, y] ++ [61]) = (((wv y % 16 : Nat) : Int) == 0) := by
  simp only [Gd, Bool.and_eq_true] at hg
  rw [Bool.eq_iff_iff]
  simp [Gd, hg.1, hg.2, TextMath.ch_pad]; omega
theorem Gd_pad3 (x y z : UInt8) (hg : Gd [x, y, z] = true) (hz : z ≠ 61) : Gd ([x, y, z] ++ [61]) = (((wv z % 4 : Nat) : Int) == 0) := by
  simp only [Gd, Bool.and_eq_true] at hg
  have hz' : ch z = true := by
    have := hg.2
    cases h : ch z
    · rw [h] at this; simp at this; exact absurd this.1 hz
    · rfl
  rw [Bool.eq_iff_iff]
  simp [Gd, hg.1.1, hg.1.2, hz', hz, TextMath.ch_pad]; omega
theorem Gd_pad33 (x y : UInt8) (hg : Gd [x, y, 61] = true) : Gd ([x, y, 61] ++ [61]) = true := by
  simp only [Gd, Bool.and_eq_true, TextMath.ch_pad, Bool.false_or] at hg
  simp [Gd, hg.1.1, hg.1.2, hg.2]

set_option maxHeartbeats 1000000 in
theorem goesOn_any (f : ByteArray) (b : UInt8) (w : World) (hg : Gd f.data.toList = true) (hl : f.size ≤ 3) (ht : WTab w) :
    Calls Tryd.prog 45 #[.string f, .int .u8 (b.toNat : Int)] w fun e w' => e = .returned (.bool (Gd (f.data.toList ++ [b]))) ∧ w' = w := by
  have hc256 : b.toNat < 256 := b.toNat_lt
  have hsz := size_l f
  have hcs : ∀ W, Hid (Calls Tryd.prog 44 #[.string f, .string ⟨#[61]⟩] W fun e w' => e = .returned (.bool (f.data.toList.getLast? == some 61)) ∧ w' = W) := fun W => hasSuffix_any f W (by unfold maxLen; omega)
  by_cases hb : b = 61
  · subst hb
    have h61 : ((((61 : UInt8).toNat : Nat) : Int) != 61) = false := by decide
    match hd : f.data.toList with
    | [] =>
      rw [hd] at hsz hcs
      have hz : f.size = 0 := by simpa using hsz.symm
      have k2 : ((f.size : Int) == 2) = false := by rw [hz]; rfl
      have k3 : ((f.size : Int) == 3) = false := by rw [hz]; rfl
      rw [Gd_pad0]
      clear hd hz hsz
      go_enter Tryd.func45, Tryd.ntmps45
      go_wp2_with (go_at_call 44; refine (hcs _).out.mono ?_; rintro e w' ⟨rfl, rfl⟩)
      go_ret
      exact ⟨rfl, rfl⟩
    | [x] =>
      rw [hd] at hsz hcs
      have hz : f.size = 1 := by simpa using hsz.symm
      have k2 : ((f.size : Int) == 2) = false := by rw [hz]; rfl
      have k3 : ((f.size : Int) == 3) = false := by rw [hz]; rfl
      rw [Gd_pad1]
      clear hd hz hsz
      go_enter Tryd.func45, Tryd.ntmps45
      go_wp2_with (go_at_call 44; refine (hcs _).out.mono ?_; rintro e w' ⟨rfl, rfl⟩)
      go_ret
      exact ⟨rfl, rfl⟩
    | [x, y] =>
      rw [hd] at hsz hcs hg
      have hz : f.size = 2 := by simpa using hsz.symm
      have k2 : ((f.size : Int) == 2) = true := by rw [hz]; rfl
      have hlt : (1 : Int) < f.size := by omega
      have hlt' : 1 < f.size := by omega
      have hf1 : ∀ h : 1 < f.size, (f[1]'h) = y := fun h => by rw [get_l f _ hd 1 h]; rfl
      have hy : ch y = true := by simp only [Gd, Bool.and_eq_true] at hg; exact hg.2
      have hw := TextMath.ch_wv y hy
      have e15 := and15n (wv y) _ hw.2.1 rfl
      have hbw := bw_ch y hy
      have hcw : ∀ W, WTab W → Hid (Calls Tryd.prog 47 #[.int .u8 (y.toNat : Int)] W fun e w' => e = .returned (.int .i64 (wv y : Int)) ∧ w' = W) := fun W h => by
        have := worth_any y W h
        rw [hbw] at this; exact this
      rw [Gd_pad2 x y hg]
      generalize wv y % 16 = m at *
      clear hd hz hsz hw hbw hy hg
      go_enter Tryd.func45, Tryd.ntmps45
      go_wp2_with (first | (go_at_call 44; refine (hcs _).out.mono ?_; rintro e w' ⟨rfl, rfl⟩) | (go_at_call 47; refine (hcw _ ht).out.mono ?_; rintro e w' ⟨rfl, rfl⟩))
      go_ret
      exact ⟨rfl, rfl⟩
    | [x, y, z] =>
      rw [hd] at hsz hcs hg
      have hz : f.size = 3 := by simpa using hsz.symm
      have k2 : ((f.size : Int) == 2) = false := by rw [hz]; rfl
      have k3 : ((f.size : Int) == 3) = true := by rw [hz]; rfl
      have hlt : (2 : Int) < f.size := by omega
      have hlt' : 2 < f.size := by omega
      have hf2 : ∀ h : 2 < f.size, (f[2]'h) = z := fun h => by rw [get_l f _ hd 2 h]; rfl
      by_cases hz61 : z = 61
      · subst hz61
        have hlast : (([x, y, 61] : List UInt8).getLast? == some 61) = true := by rfl
        rw [hlast] at hcs
        rw [Gd_pad33 x y hg]
        clear hd hz hsz hg hlast hf2
        go_enter Tryd.func45, Tryd.ntmps45
        go_wp2_with (go_at_call 44; refine (hcs _).out.mono ?_; rintro e w' ⟨rfl, rfl⟩)
        go_ret
        exact ⟨rfl, rfl⟩
      · have hlast : (([x, y, z] : List UInt8).getLast? == some 61) = false := by simpa using hz61
        rw [hlast] at hcs
        have hzc : ch z = true := by
          simp only [Gd, Bool.and_eq_true] at hg
          have := hg.2
          cases h : ch z
          · rw [h] at this; simp at this; exact absurd this.1 hz61
          · rfl
        have hw := TextMath.ch_wv z hzc
        have e3 := and3n (wv z) _ hw.2.1 rfl
        have hbw := bw_ch z hzc
        have hcw : ∀ W, WTab W → Hid (Calls Tryd.prog 47 #[.int .u8 (z.toNat : Int)] W fun e w' => e = .returned (.int .i64 (wv z : Int)) ∧ w' = W) := fun W h => by
          have := worth_any z W h
          rw [hbw] at this; exact this
        rw [Gd_pad3 x y z hg hz61]
        generalize wv z % 4 = m at *
        clear hd hz hsz hw hbw hzc hg hlast hz61
        go_enter Tryd.func45, Tryd.ntmps45
        go_wp2_with (first | (go_at_call 44; refine (hcs _).out.mono ?_; rintro e w' ⟨rfl, rfl⟩) | (go_at_call 47; refine (hcw _ ht).out.mono ?_; rintro e w' ⟨rfl, rfl⟩))
        go_ret
        exact ⟨rfl, rfl⟩
    | x :: y :: z :: t :: r => rw [hd] at hsz; simp at hsz; omega
  · have h61 := ne61 b hb
    rw [Gd_snoc _ b hg (by omega) hb, ← ge0 b]
    have hcw : ∀ W, WTab W → Hid (Calls Tryd.prog 47 #[.int .u8 (b.toNat : Int)] W fun e w' => e = .returned (.int .i64 (bw b)) ∧ w' = W) := fun W h => worth_any b W h
    generalize bw b = v at *
    cases hp : (f.data.toList.getLast? == some 61)
    all_goals
      rw [hp] at hcs
      clear hp hg hsz hb
      go_enter Tryd.func45, Tryd.ntmps45
      go_wp2_with (first | (go_at_call 44; refine (hcs _).out.mono ?_; rintro e w' ⟨rfl, rfl⟩) | (go_at_call 47; refine (hcw _ ht).out.mono ?_; rintro e w' ⟨rfl, rfl⟩))
      go_ret
      exact ⟨rfl, rfl⟩
end Go.Proofs.YtilglidhlcmfbaaDoor
