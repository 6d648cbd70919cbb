import Derived.Test.YtgdinncdhjeokaaGreatDoorFBase
import Derived.Test.YtgdinncdhjeokaaGreatDoorUbMath
import Derived.Deep.QuietTactic
import Derived.BigQuiet
namespace Go.Proofs.YtgdinncdhjeokaaGreatDoor
open Go.RowKit
open TextMath (al grp b64 bo wv ch Gd gF dec)

/-- The worth as the program tells it. -/
def bw (c : UInt8) : Int := match bo c with | some n => (n : Int) | none => -1
theorem bw_ch (c : UInt8) (h : ch c = true) : bw c = (wv c : Int) := by unfold bw; rw [(TextMath.ch_wv c h).1]
theorem bw_no (c : UInt8) (h : ch c = false) : bw c = -1 := by
  unfold bw; unfold ch at h
  cases hb : bo c with
  | none => rfl
  | some n => rw [hb] at h; cases h
theorem bw_big (c : UInt8) (h : 128 ≤ c.toNat) : bw c = -1 := by
  unfold bw bo
  rw [if_neg (by omega), if_neg (by omega), if_neg (by omega), if_neg (by omega), if_neg (by omega)]

def WTab (w : World) : Prop := ∀ i, i < 128 → w.cell? ⟨3, i, none⟩ = some (.int .i8 (bw (UInt8.ofNat i)))
theorem WTab.below {w w' : World} (h : WTab w) (hb : Below w.heap.size w w') : WTab w' := fun i hi => by
  rw [hb.cell (blockA_lt (h i hi))]; exact h i hi
theorem WTab.drewN {w : World} (h : WTab w) (n : Nat) : WTab (w.drewN n) := fun i hi => h i hi

theorem bw_range (c : UInt8) : -1 ≤ bw c ∧ bw c < 64 := by
  cases h : ch c
  · rw [bw_no c h]; omega
  · rw [bw_ch c h]; have := (TextMath.ch_wv c h).2.1; omega

set_option maxRecDepth 100000 in
set_option maxHeartbeats 400000 in
theorem worth_any (c : UInt8) (w : World) (ht : WTab w) :
    Calls Tryz.prog 99 #[.int .u8 (c.toNat : Int)] w fun e w' => e = .returned (.int .i64 (bw c)) ∧ w' = w := by
  have hc256 : c.toNat < 256 := c.toNat_lt
  by_cases h : c.toNat < 128
  · have hc := ht c.toNat h
    have e : UInt8.ofNat c.toNat = c := by simp
    rw [e] at hc
    have hr := bw_range c
    have hlt : (c.toNat : Int) < 128 := by omega
    clear e
    generalize bw c = v at *
    go_enter Tryz.func99, Tryz.ntmps99
    go_wp2
    go_ret
    exact ⟨rfl, rfl⟩
  · rw [bw_big c (by omega)]
    go_enter Tryz.func99, Tryz.ntmps99
    go_wp2
    go_ret
    exact ⟨rfl, rfl⟩

theorem lastIs (f : ByteArray) (h1 : 1 ≤ f.size) : ((f.extract (f.size - 1) f.size).toList == [61]) = (f.data.toList.getLast? == some 61) := by
  have hl := size_l f
  have e : (f.extract (f.size - 1) f.size).toList = [f.data.toList[f.data.toList.length - 1]'(by omega)] := by
    rw [Lib.toList_data, drop_l, ← hl, List.drop_eq_getElem_cons (by omega), List.drop_eq_nil_of_le (by omega)]
  rw [e, List.getLast?_eq_getElem?, List.getElem?_eq_getElem (by omega)]
  rw [Bool.eq_iff_iff]; simp

set_option maxHeartbeats 400000 in
theorem hasSuffix_any (f : ByteArray) (w : World) (hm : f.size ≤ maxLen) :
    Calls Tryz.prog 114 #[.string f, .string ⟨#[61]⟩] w fun e w' => e = .returned (.bool (f.data.toList.getLast? == some 61)) ∧ w' = w := by
  unfold maxLen at hm
  by_cases h1 : 1 ≤ f.size
  · have e := lastIs f h1
    generalize (f.data.toList.getLast? == some 61) = b at *
    go_enter Tryz.func114, Tryz.ntmps114
    go_wp2
    all_goals
      go_ret
      exact ⟨rfl, rfl⟩
  · have hz : f.data.toList = [] := List.eq_nil_of_length_eq_zero (by rw [size_l]; omega)
    rw [hz]
    go_enter Tryz.func114, Tryz.ntmps114
    go_wp2
    go_ret
    exact ⟨rfl, rfl⟩
end Go.Proofs.YtgdinncdhjeokaaGreatDoor

namespace Go.Proofs.YtgdinncdhjeokaaGreatDoor
open Go.RowKit
open TextMath (al grp b64 bo wv ch Gd gF dec)

theorem and15n (n m : Nat) (hn : n < 64) (hm : m = n % 16) : bits .and .i64 (n : Int) 15 = (m : Int) := by
  subst hm
  have e := i64_and n 15 (by omega) (by omega)
  rw [show (15 : Int) = ((15 : Nat) : Int) from rfl, e]
  congr 1
  have := Nat.and_two_pow_sub_one_eq_mod n 4
  simpa using this
theorem and3n (n m : Nat) (hn : n < 64) (hm : m = n % 4) : bits .and .i64 (n : Int) 3 = (m : Int) := by
  subst hm
  have e := i64_and n 3 (by omega) (by omega)
  rw [show (3 : Int) = ((3 : Nat) : Int) from rfl, e]
  congr 1
  have := Nat.and_two_pow_sub_one_eq_mod n 2
  simpa using this
theorem ne61 (b : UInt8) (h : b ≠ 61) : (((b.toNat : Nat) : Int) != 61) = true := by
  rw [bne_iff_ne]; intro e; apply h; apply UInt8.toNat_inj.1; have : (61 : UInt8).toNat = 61 := rfl; omega
theorem ge0 (b : UInt8) : decide ((0 : Int) ≤ bw b) = ch b := by
  cases h : ch b
  · rw [bw_no b h]; rfl
  · rw [bw_ch b h]; simp

/-- a byte that is no =, behind a front: padded or not -/
theorem Gd_snoc (f : List UInt8) (b : UInt8) (hg : Gd f = true) (hl : f.length ≤ 3) (hb : b ≠ 61) : Gd (f ++ [b]) = (!(f.getLast? == some 61) && ch b) := by
  have nb : (b == 61) = false := by simpa using hb
  match f, hg, hl with
  | [], _, _ => simp [Gd]
  | [x], hg, _ =>
    have hx := (TextMath.ch_wv x hg).2.2.2
    simp only [Gd] at hg
    simp [Gd, hg, hx]
  | [x, y], hg, _ =>
    simp only [Gd, Bool.and_eq_true] at hg
    have hy := (TextMath.ch_wv y hg.2).2.2.2
    simp [Gd, hg.1, hg.2, hy, nb]
  | [x, y, z], hg, _ =>
    simp only [Gd, Bool.and_eq_true] at hg
    cases hz : ch z
    · have hz61 : z = 61 := by have := hg.2; rw [hz] at this; simp at this; exact this.1
      subst hz61
      simp [Gd, hz, nb]
    · have hz61 := (TextMath.ch_wv z hz).2.2.2
      simp [Gd, hg.1.1, hg.1.2, hz, hz61, nb]
theorem Gd_pad0 : Gd ([] ++ [61]) = false := by decide
theorem Gd_pad1 (x : UInt8) : Gd ([x] ++ [61]) = false := by simp [Gd, TextMath.ch_pad]
theorem Gd_pad2 (x y : UInt8) (hg : Gd [x, y] = true) : Gd ([x, y] ++ [61]) = (((wv y % 16 : Nat) : Int) == 0) := by
  simp only [Gd, Bool.and_eq_true] at hg
  rw [Bool.eq_iff_iff]
  simp [Gd, hg.1, hg.2, TextMath.ch_pad]; omega
theorem Gd_pad3 (x y z : UInt8) (hg : Gd [x, y, z] = true) (hz : z ≠ 61) : Gd ([x, y, z] ++ [61]) = (((wv z % 4 : Nat) : Int) == 0) := by
  simp only [Gd, Bool.and_eq_true] at hg
  have hz' : ch z = true := by
    have := hg.2
    cases h : ch z
    · rw [h] at this; simp at this; exact absurd this.1 hz
    · rfl
  rw [Bool.eq_iff_iff]
  simp [Gd, hg.1.1, hg.1.2, hz', hz, TextMath.ch_pad]; omega
theorem Gd_pad33 (x y : UInt8) (hg : Gd [x, y, 61] = true) : Gd ([x, y, 61] ++ [61]) = true := by
  simp only [Gd, Bool.and_eq_true, TextMath.ch_pad, Bool.false_or] at hg
  simp [Gd, hg.1.1, hg.1.2, hg.2]

set_option maxHeartbeats 1000000 in
theorem goesOn_any (f : ByteArray) (b : UInt8) (w : World) (hg : Gd f.data.toList = true) (hl : f.size ≤ 3) (ht : WTab w) :
    Calls Tryz.prog 97 #[.string f, .int .u8 (b.toNat : Int)] w fun e w' => e = .returned (.bool (Gd (f.data.toList ++ [b]))) ∧ w' = w := by
  have hc256 : b.toNat < 256 := b.toNat_lt
  have hsz := size_l f
  have hcs : ∀ W, Hid (Calls Tryz.prog 114 #[.string f, .string ⟨#[61]⟩] W fun e w' => e = .returned (.bool (f.data.toList.getLast? == some 61)) ∧ w' = W) := fun W => hasSuffix_any f W (by unfold maxLen; omega)
  by_cases hb : b = 61
  · subst hb
    have h61 : ((((61 : UInt8).toNat : Nat) : Int) != 61) = false := by decide
    match hd : f.data.toList with
    | [] =>
      rw [hd] at hsz hcs
      have hz : f.size = 0 := by simpa using hsz.symm
      have k2 : ((f.size : Int) == 2) = false := by rw [hz]; rfl
      have k3 : ((f.size : Int) == 3) = false := by rw [hz]; rfl
      rw [Gd_pad0]
      clear hd hz hsz
      go_enter Tryz.func97, Tryz.ntmps97
      go_wp2_with (go_at_call 114; refine (hcs _).out.mono ?_; rintro e w' ⟨rfl, rfl⟩)
      go_ret
      exact ⟨rfl, rfl⟩
    | [x] =>
      rw [hd] at hsz hcs
      have hz : f.size = 1 := by simpa using hsz.symm
      have k2 : ((f.size : Int) == 2) = false := by rw [hz]; rfl
      have k3 : ((f.size : Int) == 3) = false := by rw [hz]; rfl
      rw [Gd_pad1]
      clear hd hz hsz
      go_enter Tryz.func97, Tryz.ntmps97
      go_wp2_with (go_at_call 114; refine (hcs _).out.mono ?_; rintro e w' ⟨rfl, rfl⟩)
      go_ret
      exact ⟨rfl, rfl⟩
    | [x, y] =>
      rw [hd] at hsz hcs hg
      have hz : f.size = 2 := by simpa using hsz.symm
      have k2 : ((f.size : Int) == 2) = true := by rw [hz]; rfl
      have hlt : (1 : Int) < f.size := by omega
      have hlt' : 1 < f.size := by omega
      have hf1 : ∀ h : 1 < f.size, (f[1]'h) = y := fun h => by rw [get_l f _ hd 1 h]; rfl
      have hy : ch y = true := by simp only [Gd, Bool.and_eq_true] at hg; exact hg.2
      have hw := TextMath.ch_wv y hy
      have e15 := and15n (wv y) _ hw.2.1 rfl
      have hbw := bw_ch y hy
      have hcw : ∀ W, WTab W → Hid (Calls Tryz.prog 99 #[.int .u8 (y.toNat : Int)] W fun e w' => e = .returned (.int .i64 (wv y : Int)) ∧ w' = W) := fun W h => by
        have := worth_any y W h
        rw [hbw] at this; exact this
      rw [Gd_pad2 x y hg]
      generalize wv y % 16 = m at *
      clear hd hz hsz hw hbw hy hg
      go_enter Tryz.func97, Tryz.ntmps97
      go_wp2_with (first | (go_at_call 114; refine (hcs _).out.mono ?_; rintro e w' ⟨rfl, rfl⟩) | (go_at_call 99; refine (hcw _ ht).out.mono ?_; rintro e w' ⟨rfl, rfl⟩))
      go_ret
      exact ⟨rfl, rfl⟩
    | [x, y, z] =>
      rw [hd] at hsz hcs hg
      have hz : f.size = 3 := by simpa using hsz.symm
      have k2 : ((f.size : Int) == 2) = false := by rw [hz]; rfl
      have k3 : ((f.size : Int) == 3) = true := by rw [hz]; rfl
      have hlt : (2 : Int) < f.size := by omega
      have hlt' : 2 < f.size := by omega
      have hf2 : ∀ h : 2 < f.size, (f[2]'h) = z := fun h => by rw [get_l f _ hd 2 h]; rfl
      by_cases hz61 : z = 61
      · subst hz61
        have hlast : (([x, y, 61] : List UInt8).getLast? == some 61) = true := by rfl
        rw [hlast] at hcs
        rw [Gd_pad33 x y hg]
        clear hd hz hsz hg hlast hf2
        go_enter Tryz.func97, Tryz.ntmps97
        go_wp2_with (go_at_call 114; refine (hcs _).out.mono ?_; rintro e w' ⟨rfl, rfl⟩)
        go_ret
        exact ⟨rfl, rfl⟩
      · have hlast : (([x, y, z] : List UInt8).getLast? == some 61) = false := by simpa using hz61
        rw [hlast] at hcs
        have hzc : ch z = true := by
          simp only [Gd, Bool.and_eq_true] at hg
          have := hg.2
          cases h : ch z
          · rw [h] at this; simp at this; exact absurd this.1 hz61
          · rfl
        have hw := TextMath.ch_wv z hzc
        have e3 := and3n (wv z) _ hw.2.1 rfl
        have hbw := bw_ch z hzc
        have hcw : ∀ W, WTab W → Hid (Calls Tryz.prog 99 #[.int .u8 (z.toNat : Int)] W fun e w' => e = .returned (.int .i64 (wv z : Int)) ∧ w' = W) := fun W h => by
          have := worth_any z W h
          rw [hbw] at this; exact this
        rw [Gd_pad3 x y z hg hz61]
        generalize wv z % 4 = m at *
        clear hd hz hsz hw hbw hzc hg hlast hz61
        go_enter Tryz.func97, Tryz.ntmps97
        go_wp2_with (first | (go_at_call 114; refine (hcs _).out.mono ?_; rintro e w' ⟨rfl, rfl⟩) | (go_at_call 99; refine (hcw _ ht).out.mono ?_; rintro e w' ⟨rfl, rfl⟩))
        go_ret
        exact ⟨rfl, rfl⟩
    | x :: y :: z :: t :: r => rw [hd] at hsz; simp at hsz; omega
  · have h61 := ne61 b hb
    rw [Gd_snoc _ b hg (by omega) hb, ← ge0 b]
    have hcw : ∀ W, WTab W → Hid (Calls Tryz.prog 99 #[.int .u8 (b.toNat : Int)] W fun e w' => e = .returned (.int .i64 (bw b)) ∧ w' = W) := fun W h => worth_any b W h
    generalize bw b = v at *
    cases hp : (f.data.toList.getLast? == some 61)
    all_goals
      rw [hp] at hcs
      clear hp hg hsz hb
      go_enter Tryz.func97, Tryz.ntmps97
      go_wp2_with (first | (go_at_call 114; refine (hcs _).out.mono ?_; rintro e w' ⟨rfl, rfl⟩) | (go_at_call 99; refine (hcw _ ht).out.mono ?_; rintro e w' ⟨rfl, rfl⟩))
      go_ret
      exact ⟨rfl, rfl⟩
end Go.Proofs.YtgdinncdhjeokaaGreatDoor
