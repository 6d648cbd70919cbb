import Derived.Test.YtoomoicjoockjaaGreatDoorGBase
import Derived.Test.YtoomoicjoockjaaGreatDoorUbMath
import Derived.Deep.QuietTactic
import Derived.BigQuiet
namespace Go.Proofs.YtoomoicjoockjaaGreatDoor
open Go.RowKit
open TextMath (al grp b64 bo wv ch Gd gF dec)

/-- The worth as the program tells it. -/
def bw (c : UInt8) : Int := match bo c with | some n => (n : Int) | none => -1
theorem bw_ch (c : UInt8) (h : ch c = true) : bw c = (wv c : Int) := by unfold bw; rw [(TextMath.ch_wv c h).1]
theorem bw_no (c : UInt8) (h : ch c = false) : bw c = -1 := by
  unfold bw; unfold ch at h
  cases hb : bo c with
  | none => rfl
  | some n => rw [hb] at h; cases h
theorem bw_big (c : UInt8) (h : 128 ≤ c.toNat) : bw c = -1 := by
  unfold bw bo
  rw [if_neg (by omega), if_neg (by omega), if_neg (by omega), if_neg (by omega), if_neg (by omega)]

def WTab (w : World) : Prop := ∀ i, i < 128 → w.cell? ⟨2, i, none⟩ = some (.int .i8 (bw (UInt8.ofNat i)))
theorem WTab.below {w w' : World} (h : WTab w) (hb : Below w.heap.size w w') : WTab w' := fun i hi => by
  rw [hb.cell (blockA_lt (h i hi))]; exact h i hi
theorem WTab.drewN {w : World} (h : WTab w) (n : Nat) : WTab (w.drewN n) := fun i hi => h i hi

theorem bw_range (c : UInt8) : -1 ≤ bw c ∧ bw c < 64 := by
  cases h : ch c
  · rw [bw_no c h]; omega
  · rw [bw_ch c h]; have := (TextMath.ch_wv c h).2.1; omega

set_option maxRecDepth 100000 in
set_option maxHeartbeats 400000 in
theorem worth_any (c : UInt8) (w : World) (ht : WTab w) :
    Calls Tryz.prog 108 #[.int .u8 (c.toNat : Int)] w fun e w' => e = .returned (.int .i64 (bw c)) ∧ w' = w := by
  have hc256 : c.toNat < 256 := c.toNat_lt
  by_cases h : c.toNat < 128
  · have hc := ht c.toNat h
    have e : UInt8.ofNat c.toNat = c := by simp
    rw [e] at hc
    have hr := bw_range c
    have hlt : (c.toNat : Int) < 128 := by omega
    clear e
    generalize bw c = v at *
    go_enter Tryz.func108, Tryz.ntmps108
    go_wp2
    go_ret
    exact ⟨rfl, rfl⟩
  · rw [bw_big c (by omega)]
    go_enter Tryz.func108, Tryz.ntmps108
    go_wp2
    go_ret
    exact ⟨rfl, rfl⟩

theorem lastIs (f : ByteArray) (h1 : 1 ≤ f.size) : ((f.extract (f.size - 1) f.size).toList == [61]) = (f.data.toList.getLast? == some 61) := by
  have hl := size_l f
  have e : (f.extract (f.size - 1) f.size).toList = [f.data.toList[f.data.toList.length - 1]'(by omega)] := by
    rw [Lib.toList_data, drop_l, ← hl, List.drop_eq_getElem_cons (by omega), List.drop_eq_nil_of_le (by omega)]
  rw [e, List.getLast?_eq_getElem?, List.getElem?_eq_getElem (by omega)]
  rw [Bool.eq_iff_iff]; simp

set_option maxHeartbeats 400000 in
theorem hasSuffix_any (f : ByteArray) (w : World) (hm : f.size ≤ maxLen) :
    Calls Tryz.prog 123 #[.string f, .string ⟨#[61]⟩] w fun e w' => e = .returned (.bool (f.data.toList.getLast? == some 61)) ∧ w' = w := by
  unfold maxLen at hm
  by_cases h1 : 1 ≤ f.size
  · have e := lastIs f h1
    generalize (f.data.toList.getLast? == some 61) = b at *
    go_enter Tryz.func123, Tryz.ntmps123
    go_wp2
    all_goals
      go_ret
      exact ⟨rfl, rfl⟩
  · have hz : f.data.toList = [] := List.eq_nil_of_length_eq_zero (by rw [size_l]; omega)
    rw [hz]
    go_enter Tryz.func123, Tryz.ntmps123
    go_wp2
    go_ret
    exact ⟨rfl, rfl⟩
end Go.Proofs.YtoomoicjoockjaaGreatDoor

namespace Go.Proofs.YtoomoicjoockjaaGreatDoor
open Go.RowKit
open TextMath (al grp b64 bo wv ch Gd gF dec)

theorem and15n (n m : Nat) (hn : n < 64) (hm : m = n % 16) : bits .and .i64 (n : Int) 15 = (m : Int) := by
  subst hm
  have e := i64_and n 15 (by omega) (by omega)
  rw [show (15 : Int) = ((15 : Nat) : Int) from rfl, e]
  congr 1
  have := Nat.and_two_pow_sub_one_eq_mod n 4
  simpa using this
theorem and3n (n m : Nat) (hn : n < 64) (hm : m = n % 4) : bits .and .i64 (n : Int) 3 = (m : Int) := by
  subst hm
  have e := i64_and n 3 (by omega) (by omega)
  rw [show (3 : Int) = ((3 : Nat) : Int) from rfl, e]
  congr 1
  have := Nat.and_two_pow_sub_one_eq_mod n 2
  simpa using this
theorem ne61 (b : UInt8) (h : b ≠ 61) : (((b.toNat : Nat) : Int) != 61) = true := by
  rw [bne_iff_ne]; intro e; apply h; apply UInt8.toNat_inj.1; have : (61 : UInt8).toNat = 61 := rfl; omega
theorem ge0 (b : UInt8) : decide ((0 : Int) ≤ bw b) = ch b := by
  cases h : ch b
  · rw [bw_no b h]; rfl
  · rw [bw_ch b h]; simp

/-- a byte that is no =, behind a front: padded or not -/
theorem Gd_snoc (f : List UInt8) (b : UInt8) (hg : Gd f = true) (hl : f.length ≤ 3) (hb : b ≠ 61) : Gd (f ++ [b]) = (!(f.getLast? == some 61) && ch b) := by
  have nb : (b == 61) = false := by simpa using hb
  match f, hg, hl with
  | [], _, _ => simp [Gd]
  | [x], hg, _ =>
    have hx := (TextMath.ch_wv x hg).2.2.2
    simp only [Gd] at hg
    simp [Gd, hg, hx]
  | [x, y], hg, _ =>
    simp only [Gd, Bool.and_eq_true] at hg
    have hy := (TextMath.ch_wv y hg.2).2.2.2
    simp [Gd, hg.1, hg.2, hy, nb]
  | [x, y, z], hg, _ =>
    simp only [Gd, Bool.and_eq_true] at hg
    cases hz : ch z
    · have hz61 : z = 61 := by have := hg.2; rw [hz] at this; simp at this; exact this.1
      subst hz61
      simp [Gd, hz, nb]
    · have hz61 := (TextMath.ch_wv z hz).2.2.2
      simp [Gd, hg.1.1, hg.1.2, hz, hz61, nb]
theorem Gd_pad0 : Gd ([] ++ [61]) = false := by decide
theorem Gd_pad1 (x : UInt8) : Gd ([x] ++ [61]) = false := by simp [Gd, TextMath.ch_pad]
theorem Gd_pad2 (x y : UInt8) (hg : Gd [x, y] = true) : Gd ([x, y] ++ [61]) = (((wv y % 16 : Nat) : Int) == 0) := by
  simp only [Gd, Bool.and_eq_true] at hg
  rw [Bool.eq_iff_iff]
  simp [Gd, hg.1, hg.2, TextMath.ch_pad]; omega
theorem Gd_pad3 (x y z : UInt8) (hg : Gd [x, y, z] = true) (hz : z ≠ 61) : Gd ([x, y, z] ++ [61]) = (((wv z % 4 : Nat) : Int) == 0) := by
  simp only [Gd, Bool.and_eq_true] at hg
  have hz' : ch z = true := by
    have := hg.2
    cases h : ch z
    · rw [h] at this; simp at this; exact absurd this.1 hz
    · rfl
  rw [Bool.eq_iff_iff]
  simp [Gd, hg.1.1, hg.1.2, hz', hz, TextMath.ch_pad]; omega
theorem Gd_pad33 (x y : UInt8) (hg : Gd [x, y, 61] = true) : Gd ([x, y, 61] ++ [61]) = true := by
  simp only [Gd, Bool.and_eq_true, TextMath.ch_pad, Bool.false_or] at hg
  simp [Gd, hg.1.1, hg.1.2, hg.2]

set_option maxHeartbeats 1000000 in
theorem goesOn_any (f : ByteArray) (b : UInt8) (w : World) (hg : Gd f.data.toList = true) (hl : f.size ≤ 3) (ht : WTab w) :
    Calls Tryz.prog 106 #[.string f, .int .u8 (b.toNat : Int)] w fun e w' => e = .returned (.bool (Gd (f.data.toList ++ [b]))) ∧ w' = w := by
  have hc256 : b.toNat < 256 := b.toNat_lt
  have hsz := size_l f
  have hcs : ∀ W, Hid (Calls Tryz.prog 123 #[.string f, .string ⟨#[61]⟩] W fun e w' => e = .returned (.bool (f.data.toList.getLast? == some 61)) ∧ w' = W) := fun W => hasSuffix_any f W (by unfold maxLen; omega)
  by_cases hb : b = 61
  · subst hb
    have h61 : ((((61 : UInt8).toNat : Nat) : Int) != 61) = false := by decide
    match hd : f.data.toList with
    | [] =>
      rw [hd] at hsz hcs
      have hz : f.size = 0 := by simpa using hsz.symm
      have k2 : ((f.size : Int) == 2) = false := by rw [hz]; rfl
      have k3 : ((f.size : Int) == 3) = false := by rw [hz]; rfl
      rw [Gd_pad0]
      clear hd hz hsz
      go_enter Tryz.func106, Tryz.ntmps106
      go_wp2_with (go_at_call 123; refine (hcs _).out.mono ?_; rintro e w' ⟨rfl, rfl⟩)
      go_ret
      exact ⟨rfl, rfl⟩
    | [x] =>
      rw [hd] at hsz hcs
      have hz : f.size = 1 := by simpa using hsz.symm
      have k2 : ((f.size : Int) == 2) = false := by rw [hz]; rfl
      have k3 : ((f.size : Int) == 3) = false := by rw [hz]; rfl
      rw [Gd_pad1]
      clear hd hz hsz
      go_enter Tryz.func106, Tryz.ntmps106
      go_wp2_with (go_at_call 123; refine (hcs _).out.mono ?_; rintro e w' ⟨rfl, rfl⟩)
      go_ret
      exact ⟨rfl, rfl⟩
    | [x, y] =>
      rw [hd] at hsz hcs hg
      have hz : f.size = 2 := by simpa using hsz.symm
      have k2 : ((f.size : Int) == 2) = true := by rw [hz]; rfl
      have hlt : (1 : Int) < f.size := by omega
      have hlt' : 1 < f.size := by omega
      have hf1 : ∀ h : 1 < f.size, (f[1]'h) = y := fun h => by rw [get_l f _ hd 1 h]; rfl
      have hy : ch y = true := by simp only [Gd, Bool.and_eq_true] at hg; exact hg.2
      have hw := TextMath.ch_wv y hy
      have e15 := and15n (wv y) _ hw.2.1 rfl
      have hbw := bw_ch y hy
      have hcw : ∀ W, WTab W → Hid (Calls Tryz.prog 108 #[.int .u8 (y.toNat : Int)] W fun e w' => e = .returned (.int .i64 (wv y : Int)) ∧ w' = W) := fun W h => by
        have := worth_any y W h
        rw [hbw] at this; exact this
      rw [Gd_pad2 x y hg]
      generalize wv y % 16 = m at *
      clear hd hz hsz hw hbw hy hg
      go_enter Tryz.func106, Tryz.ntmps106
      go_wp2_with (first | (go_at_call 123; refine (hcs _).out.mono ?_; rintro e w' ⟨rfl, rfl⟩) | (go_at_call 108; refine (hcw _ ht).out.mono ?_; rintro e w' ⟨rfl, rfl⟩))
      go_ret
      exact ⟨rfl, rfl⟩
    | [x, y, z] =>
      rw [hd] at hsz hcs hg
      have hz : f.size = 3 := by simpa using hsz.symm
      have k2 : ((f.size : Int) == 2) = false := by rw [hz]; rfl
      have k3 : ((f.size : Int) == 3) = true := by rw [hz]; rfl
      have hlt : (2 : Int) < f.size := by omega
      have hlt' : 2 < f.size := by omega
      have hf2 : ∀ h : 2 < f.size, (f[2]'h) = z := fun h => by rw [get_l f _ hd 2 h]; rfl
      by_cases hz61 : z = 61
      · subst hz61
        have hlast : (([x, y, 61] : List UInt8).getLast? == some 61) = true := by rfl
        rw [hlast] at hcs
        rw [Gd_pad33 x y hg]
        clear hd hz hsz hg hlast hf2
        go_enter Tryz.func106, Tryz.ntmps106
        go_wp2_with (go_at_call 123; refine (hcs _).out.mono ?_; rintro e w' ⟨rfl, rfl⟩)
        go_ret
        exact ⟨rfl, rfl⟩
      · have hlast : (([x, y, z] : List UInt8).getLast? == some 61) = false := by simpa using hz61
        rw [hlast] at hcs
        have hzc : ch z = true := by
          simp only [Gd, Bool.and_eq_true] at hg
          have := hg.2
          cases h : ch z
          · rw [h] at this; simp at this; exact absurd this.1 hz61
          · rfl
        have hw := TextMath.ch_wv z hzc
        have e3 := and3n (wv z) _ hw.2.1 rfl
        have hbw := bw_ch z hzc
        have hcw : ∀ W, WTab W → Hid (Calls Tryz.prog 108 #[.int .u8 (z.toNat : Int)] W fun e w' => e = .returned (.int .i64 (wv z : Int)) ∧ w' = W) := fun W h => by
          have := worth_any z W h
          rw [hbw] at this; exact this
        rw [Gd_pad3 x y z hg hz61]
        generalize wv z % 4 = m at *
        clear hd hz hsz hw hbw hzc hg hlast hz61
        go_enter Tryz.func106, Tryz.ntmps106
        go_wp2_with (first | (go_at_call 123; refine (hcs _).out.mono ?_; rintro e w' ⟨rfl, rfl⟩) | (go_at_call 108; refine (hcw _ ht).out.mono ?_; rintro e w' ⟨rfl, rfl⟩))
        go_ret
        exact ⟨rfl, rfl⟩
    | x :: y :: z :: t :: r => rw [hd] at hsz; simp at hsz; omega
  · have h61 := ne61 b hb
    rw [Gd_snoc _ b hg (by omega) hb, ← ge0 b]
    have hcw : ∀ W, WTab W → Hid (Calls Tryz.prog 108 #[.int .u8 (b.toNat : Int)] W fun e w' => e = .returned (.int .i64 (bw b)) ∧ w' = W) := fun W h => worth_any b W h
    generalize bw b = v at *
    cases hp : (f.data.toList.getLast? == some 61)
    all_goals
      rw [hp] at hcs
      clear hp hg hsz hb
      go_enter Tryz.func106, Tryz.ntmps106
      go_wp2_with (first | (go_at_call 123; refine (hcs _).out.mono ?_; rintro e w' ⟨rfl, rfl⟩) | (go_at_call 108; refine (hcw _ ht).out.mono ?_; rintro e w' ⟨rfl, rfl⟩))
      go_ret
      exact ⟨rfl, rfl⟩
end Go.Proofs.YtoomoicjoockjaaGreatDoor

namespace Go.Proofs.YtoomoicjoockjaaGreatDoor
open Go.RowKit
open TextMath (al grp b64 bo wv ch Gd gF dec)

theorem gF_stop (g : List UInt8) (k : Nat) (hl : g.length ≤ 4) (hk : k ≤ g.length) (hall : ∀ j, j ≤ k → Gd (g.take j) = true) (hs : k = g.length ∨ Gd (g.take (k + 1)) = false) : gF g = k := by
  unfold gF
  match k, hk, hall, hs with
  | 0, _, _, hs =>
    rw [if_neg]
    rintro ⟨h1, h2⟩
    rcases hs with hs | hs
    · omega
    · rw [h2] at hs; cases hs
  | 1, hk, hall, hs =>
    rw [if_pos ⟨hk, hall 1 (by omega)⟩, if_neg]
    rintro ⟨h1, h2⟩
    rcases hs with hs | hs
    · omega
    · rw [h2] at hs; cases hs
  | 2, hk, hall, hs =>
    rw [if_pos ⟨by omega, hall 1 (by omega)⟩, if_pos ⟨hk, hall 2 (by omega)⟩, if_neg]
    rintro ⟨h1, h2⟩
    rcases hs with hs | hs
    · omega
    · rw [h2] at hs; cases hs
  | 3, hk, hall, hs =>
    rw [if_pos ⟨by omega, hall 1 (by omega)⟩, if_pos ⟨by omega, hall 2 (by omega)⟩, if_pos ⟨hk, hall 3 (by omega)⟩, if_neg]
    rintro ⟨h1, h2⟩
    rcases hs with hs | hs
    · omega
    · rw [h2] at hs; cases hs
  | 4, hk, hall, hs =>
    rw [if_pos ⟨by omega, hall 1 (by omega)⟩, if_pos ⟨by omega, hall 2 (by omega)⟩, if_pos ⟨by omega, hall 3 (by omega)⟩, if_pos ⟨hk, hall 4 (by omega)⟩]
  | k + 5, hk, _, _ => omega

set_option maxHeartbeats 1000000 in
theorem groupFront_any (g : ByteArray) (w : World) (hl : g.size ≤ 4) (ht : WTab w) :
    Calls Tryz.prog 90 #[.string g] w fun e w' => e = .returned (.int .i64 (gF g.data.toList : Nat)) ∧ Below w.heap.size w w' := by
  have hL : Hid (g.data.toList.length = g.size) := size_l g
  go_enter Tryz.func90, Tryz.ntmps90
  go_wp2
  go_loopw [3] (fun t wr => ∃ k : Nat, k ≤ g.size ∧ t = .int .i64 k ∧ Below w.heap.size w wr ∧ Hid (∀ j, j ≤ k → Gd (g.data.toList.take j) = true)) (fun t _ => g.size - (intOf t).toNat)
  case atStart => exact ⟨0, Nat.zero_le _, rfl, Below.refl _ _, fun j hj => by rw [Nat.le_zero.1 hj]; rfl⟩
  case round =>
    obtain ⟨k, hk, rfl, hb, hall⟩ := hrel
    by_cases hlt : k < g.size
    · have hkl : k < g.data.toList.length := by rw [hL.out]; exact hlt
      have h3 : (g.extract 0 k).size ≤ 3 := by simp; omega
      have hg : Gd (g.extract 0 k).data.toList = true := by rw [take_l]; exact hall.out k (Nat.le_refl _)
      have hcall : ∀ W, WTab W → Hid (Calls Tryz.prog 106 #[.string (g.extract 0 k), .int .u8 (g[k].toNat : Int)] W fun e w' => e = .returned (.bool (Gd (g.data.toList.take (k + 1)))) ∧ w' = W) := fun W hW => by
        have := goesOn_any (g.extract 0 k) g[k] W hg h3 hW
        rw [take_l, ← take_snoc g k hlt] at this
        exact this
      have c1 : (k : Int) < (g.size : Int) := by omega
      have c2 : (0 : Int) ≤ (k : Int) := by omega
      have c3 : (k : Int) ≤ (g.size : Int) := by omega
      have htr := ht.below hb
      clear h3 hg
      cases hn : Gd (g.data.toList.take (k + 1))
      · have HR : Hid (gF g.data.toList = k) := gF_stop _ k (by rw [hL.out]; exact hl) (by omega) hall.out (Or.inr hn)
        rw [hn] at hcall
        clear hn hall
        go_wp2
        go_quiet ((go_at_call 106; exact Calls.quiet_of_same (hcall _ (htr.drewN _)).out))
        go_wp2
        go_ret
        exact ⟨ret_int (by rw [HR.out]), below_drewN hb _⟩
      · have HA : Hid (∀ j, j ≤ k + 1 → Gd (g.data.toList.take j) = true) := fun j hj => by
          by_cases e : j = k + 1
          · subst e; exact hn
          · exact hall.out j (by omega)
        rw [hn] at hcall
        clear hn hall
        go_wp2
        go_quiet ((go_at_call 106; exact Calls.quiet_of_same (hcall _ (htr.drewN _)).out))
        go_wp2
        first
          | exact ⟨⟨k + 1, by omega, by go_num, below_drewN hb _, HA⟩, by simp [intOf]; omega⟩
          | (go_roundw
             case rel => exact ⟨k + 1, by omega, by go_num, below_drewN hb _, HA⟩
             case measure => simp [intOf]; omega)
    · have hke : k = g.size := by omega
      have HR : Hid (gF g.data.toList = k) := gF_stop _ k (by rw [hL.out]; exact hl) (by rw [hL.out]; omega) hall.out (Or.inl (by rw [hL.out]; exact hke))
      have d1 : decide ((k : Int) < (g.size : Int)) = false := by simp; omega
      clear hall hke
      go_wp2
      go_quiet (fail)
      go_wp2
      go_ret
      exact ⟨ret_int (by rw [HR.out]), below_drewN hb _⟩
end Go.Proofs.YtoomoicjoockjaaGreatDoor

namespace Go.Proofs.YtoomoicjoockjaaGreatDoor
open Go.RowKit
open TextMath (al grp b64 bo wv ch Gd gF dec)

/-- How much is left without the = at the end. -/
def fl (l : List UInt8) : Nat := (l.reverse.dropWhile (· == 61)).length
theorem fl_le (l : List UInt8) : fl l ≤ l.length := by
  unfold fl
  have := (List.dropWhile_suffix (l := l.reverse) (· == 61)).length_le
  simpa using this
theorem fl_pad (l : List UInt8) (k : Nat) (hk : k < l.length) (h : l[k] = 61) : fl (l.take (k + 1)) = fl (l.take k) := by
  unfold fl
  rw [List.take_succ_eq_append_getElem hk, h]; simp
theorem fl_stop (l : List UInt8) (k : Nat) (hk : k < l.length) (h : l[k] ≠ 61) : fl (l.take (k + 1)) = k + 1 := by
  unfold fl
  rw [List.take_succ_eq_append_getElem hk, List.reverse_append, List.reverse_singleton, List.singleton_append, List.dropWhile_cons, if_neg (by simpa using h)]
  simp only [List.length_cons, List.length_reverse, List.length_take]; omega

set_option maxHeartbeats 1000000 in
theorem trimRightByte_any (s : ByteArray) (w : World) (hm : s.size ≤ 4) :
    Calls Tryz.prog 124 #[.string s, .int .u8 61] w fun e w' => (∃ t : ByteArray, e = .returned (.string t) ∧ t.size = fl s.data.toList) ∧ w' = w := by
  have hL : Hid (s.data.toList.length = s.size) := size_l s
  go_enter Tryz.func124, Tryz.ntmps124
  go_wp2
  go_loop [0] (fun sv => ∃ t : ByteArray, sv = .string t ∧ t.size ≤ s.size ∧ Hid (t.data.toList = s.data.toList.take t.size) ∧ Hid (fl s.data.toList = fl (s.data.toList.take t.size))) (fun sv => szOf sv)
  case atStart => exact ⟨s, rfl, Nat.le_refl _, by unfold Hid; rw [List.take_of_length_le (by rw [hL.out]; exact Nat.le_refl _)], by unfold Hid; rw [List.take_of_length_le (by rw [hL.out]; exact Nat.le_refl _)]⟩
  case round =>
    obtain ⟨t, rfl, hts, htl, hfl⟩ := hrel
    by_cases hp : 0 < t.size
    · have hpl : t.size - 1 < t.size := by omega
      have hk : t.size - 1 < s.data.toList.length := by rw [hL.out]; omega
      have hget : t[t.size - 1]'hpl = s.data.toList[t.size - 1] := by
        rw [← getD_s t (t.size - 1) hpl, htl.out]
        simp only [List.getD, List.getElem?_take]
        rw [if_pos hpl, List.getElem?_eq_getElem hk]; rfl
      have e : t.size - 1 + 1 = t.size := by omega
      by_cases hc : s.data.toList[t.size - 1] = 61
      · have hf := fl_pad s.data.toList (t.size - 1) hk hc
        rw [e] at hf
        have hb : (((t[t.size - 1]'hpl).toNat : Int) == 61) = true := by rw [hget, hc]; rfl
        have HT : Hid ((t.extract 0 (t.size - 1)).data.toList = s.data.toList.take (t.extract 0 (t.size - 1)).size) := by
          unfold Hid; rw [take_l, htl.out, List.take_take]
          congr 1; simp
        have HF : Hid (fl s.data.toList = fl (s.data.toList.take (t.extract 0 (t.size - 1)).size)) := by
          unfold Hid; rw [hfl.out, hf]
          congr 2; simp
        clear hget hf hc hfl htl e
        go_wp2
        go_round
        case rel => exact ⟨t.extract 0 (t.size - 1), rfl, by simp; omega, HT, HF⟩
        case measure => simp [szOf]; omega
      · have hf := fl_stop s.data.toList (t.size - 1) hk hc
        rw [e] at hf
        have hne : s.data.toList[t.size - 1].toNat ≠ 61 := fun h => hc (by apply UInt8.toNat_inj.1; exact h)
        have hb : (((t[t.size - 1]'hpl).toNat : Int) == 61) = false := beq_eq_false_iff_ne.2 (by rw [hget]; omega)
        have HR : Hid (t.size = fl s.data.toList) := by unfold Hid; rw [hfl.out, hf]
        clear hget hf hc hfl htl e hne
        go_wp2
        go_ret
        exact ⟨⟨t, rfl, HR.out⟩, rfl⟩
    · have HR : Hid (t.size = fl s.data.toList) := by
        have hz : t.size = 0 := by omega
        unfold Hid; rw [hfl.out, hz]; rfl
      clear hfl htl
      go_wp2
      go_ret
      exact ⟨⟨t, rfl, HR.out⟩, rfl⟩

set_option maxRecDepth 100000 in
set_option maxHeartbeats 1000000 in
theorem trimRight_any (s : ByteArray) (w : World) (hm : s.size = 4) :
    Calls Tryz.prog 107 #[.string s, .string ⟨#[61]⟩] w fun e w' => (∃ t : ByteArray, e = .returned (.string t) ∧ t.size = fl s.data.toList) ∧ w' = w := by
  have hcall := trimRightByte_any s w (by omega)
  have HC : Hid (Calls Tryz.prog 124 #[.string s, .int .u8 61] w fun e w' => (∃ t : ByteArray, e = .returned (.string t) ∧ t.size = fl s.data.toList) ∧ w' = w) := hcall
  have hne : s.toList.isEmpty = false := by
    rw [Lib.toList_data]
    have := size_l s
    cases h : s.data.toList with
    | nil => rw [h] at this; simp at this; omega
    | cons a b => rfl
  clear hcall hm
  go_enter Tryz.func107, Tryz.ntmps107
  go_wp2_with (go_at_call 124; refine HC.out.mono ?_; rintro e w' ⟨⟨t, rfl, ht⟩, rfl⟩; have HT : Hid (_ = _) := ht; clear ht)
  go_ret
  exact ⟨⟨t, rfl, HT.out⟩, rfl⟩
end Go.Proofs.YtoomoicjoockjaaGreatDoor
