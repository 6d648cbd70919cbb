import Derived.Test.YtnjodplnbfmjeaaGreatDoorMtTmJ
namespace Go.Proofs.YtnjodplnbfmjeaaGreatDoor
open Go.RowKit
set_option linter.unusedVariables false
set_option linter.unusedSimpArgs false
namespace Mt

theorem i00 : (0 : Int) ≤ 0 := by decide
theorem i059 : (0 : Int) ≤ 59 := by decide
theorem im : (-1439 : Int) ≤ 0 := by decide
theorem im2 : (0 : Int) ≤ 1439 := by decide
theorem i1_12 : (1 : Int) ≤ 12 := by decide
theorem i12_12 : (12 : Int) ≤ 12 := by decide
theorem i1_31 : (1 : Int) ≤ 31 := by decide
theorem i31_31 : (31 : Int) ≤ 31 := by decide
theorem i11 : (1 : Int) ≤ 1 := by decide
theorem numR_ok {n : Nat} {lo hi : Int} {l : List UInt8} {br : Bool} (h : (numR n lo hi l br).2.2 = false) : br = false ∧ lo ≤ (numR n lo hi l br).1 ∧ (numR n lo hi l br).1 ≤ hi := by
  unfold numR at h ⊢
  by_cases q1 : l.length < n
  · rw [if_pos q1] at h; cases h
  · rw [if_neg q1] at h ⊢
    by_cases q2 : allD (l.take n) = true
    · rw [if_pos q2] at h ⊢
      have h : (br || (decide ((digV (l.take n) : Int) < lo) || decide (hi < (digV (l.take n) : Int)))) = false := h
      rw [Bool.or_eq_false_iff, Bool.or_eq_false_iff] at h
      have h1 := of_decide_eq_false h.2.1
      have h2 := of_decide_eq_false h.2.2
      exact ⟨h.1, by show lo ≤ (digV (l.take n) : Int); omega, by show (digV (l.take n) : Int) ≤ hi; omega⟩
    · rw [if_neg q2] at h; cases h
theorem zmR_ok {l : List UInt8} {br : Bool} (h : (zmR l br).2.2 = false) : br = false ∧ 0 ≤ (zmR l br).1 ∧ (zmR l br).1 ≤ 1439 := by
  unfold zmR at h ⊢
  by_cases q : (numR 2 0 23 l br).2.1 = []
  · rw [if_pos q] at h ⊢
    have h1 := numR_ok (n := 2) (lo := 0) (hi := 23) (l := l) (br := br) h
    exact ⟨h1.1, by show 0 ≤ (numR 2 0 23 l br).1 * 60; omega, by show (numR 2 0 23 l br).1 * 60 ≤ 1439; omega⟩
  · rw [if_neg q] at h ⊢
    have h2 := numR_ok (n := 2) (lo := 0) (hi := 59) (l := (numR 2 0 23 l br).2.1) (br := (numR 2 0 23 l br).2.2) h
    have h1 := numR_ok h2.1
    exact ⟨h1.1, by show 0 ≤ (numR 2 0 23 l br).1 * 60 + (numR 2 0 59 (numR 2 0 23 l br).2.1 (numR 2 0 23 l br).2.2).1; omega, by show (numR 2 0 23 l br).1 * 60 + (numR 2 0 59 (numR 2 0 23 l br).2.1 (numR 2 0 23 l br).2.2).1 ≤ 1439; omega⟩
theorem zoR_ok {l : List UInt8} {br : Bool} (h : (zoR l br).2.2 = false) : br = false ∧ -1439 ≤ (zoR l br).1 ∧ (zoR l br).1 ≤ 1439 := by
  unfold zoR at h ⊢
  by_cases q1 : Lib.hasPrefix l [90] = true
  · rw [if_pos q1] at h ⊢
    exact ⟨h, im, im2⟩
  · rw [if_neg q1] at h ⊢
    by_cases q2 : Lib.hasPrefix l [43] = true
    · rw [if_pos q2] at h ⊢
      have := zmR_ok h
      exact ⟨this.1, by omega, this.2.2⟩
    · rw [if_neg q2] at h ⊢
      by_cases q3 : Lib.hasPrefix l [45] = true
      · rw [if_pos q3] at h ⊢
        have := zmR_ok h
        exact ⟨this.1, by show -1439 ≤ -(zmR (Lib.trimPrefix l [45]) br).1; omega, by show -(zmR (Lib.trimPrefix l [45]) br).1 ≤ 1439; omega⟩
      · rw [if_neg q3] at h; cases h
theorem fracR_ok {l : List UInt8} {br : Bool} (h : (fracR l br).2.2 = false) : br = false := by
  cases l with
  | nil => exact h
  | cons c m =>
    by_cases q : isPt c = true
    · rw [show fracR (c :: m) br = _ from if_pos q] at h
      have h : (br || !atD m) = false := h
      rw [Bool.or_eq_false_iff] at h
      exact h.1
    · rw [show fracR (c :: m) br = _ from if_neg q] at h
      exact h
theorem lastD_bnd (y mo : Int) : 28 ≤ lastD y mo ∧ lastD y mo ≤ 31 := by
  unfold lastD
  split
  · split <;> exact ⟨by decide, by decide⟩
  · split <;> exact ⟨by decide, by decide⟩
/-- What is known of the numbers of a time that was read. -/
def MomOk (x : Int × Int × Int × Int × Int × Int × List UInt8) (n : Nat) : Prop :=
  (0 ≤ x.1 ∧ x.1 ≤ 9999) ∧ (1 ≤ x.2.1 ∧ x.2.1 ≤ 12) ∧ (1 ≤ x.2.2.1 ∧ x.2.2.1 ≤ 31) ∧ (0 ≤ x.2.2.2.1 ∧ x.2.2.2.1 ≤ 23) ∧ (0 ≤ x.2.2.2.2.1 ∧ x.2.2.2.2.1 ≤ 59) ∧ (0 ≤ x.2.2.2.2.2.1 ∧ x.2.2.2.2.2.1 ≤ 59) ∧ x.2.2.2.2.2.2.length ≤ n
theorem rdEnd_ok {y mo d h mi s : Int} {f l : List UInt8} {br : Bool} (q : (rdEnd y mo d h mi s f l br).2.2 = true) : br = false ∧ -1439 ≤ (rdEnd y mo d h mi s f l br).2.1 ∧ (rdEnd y mo d h mi s f l br).2.1 ≤ 1439 := by
  have q : (!(zoR l br).2.2 && (zoR l br).2.1.isEmpty) = true := q
  rw [Bool.and_eq_true] at q
  exact zoR_ok (by simpa using q.1)
theorem rd_ok {l : List UInt8} (q : (rdT l).2.2 = true) : MomOk (rdT l).1 l.length ∧ -1439 ≤ (rdT l).2.1 ∧ (rdT l).2.1 ≤ 1439 := by
  unfold rdT rdY rdMo rdDay rdHr at q ⊢
  have n1 := numR_len 4 0 9999 l false
  have o1 := @numR_ok 4 0 9999 l false
  generalize numR 4 0 9999 l false = a1 at *
  have n2 := numR_len 2 1 12 a1.2.1 a1.2.2
  have o2 := @numR_ok 2 1 12 a1.2.1 a1.2.2
  generalize numR 2 1 12 a1.2.1 a1.2.2 = a2 at *
  have n3 := numR_len 2 1 (lastD a1.1 a2.1) a2.2.1 a2.2.2
  have o3 := @numR_ok 2 1 (lastD a1.1 a2.1) a2.2.1 a2.2.2
  have hb := lastD_bnd a1.1 a2.1
  generalize lastD a1.1 a2.1 = L at *
  generalize numR 2 1 L a2.2.1 a2.2.2 = a3 at *
  have n4 := numR_len 2 0 23 a3.2.1 a3.2.2
  have o4 := @numR_ok 2 0 23 a3.2.1 a3.2.2
  generalize numR 2 0 23 a3.2.1 a3.2.2 = a4 at *
  have key : a4.2.2 = false → (0 ≤ a1.1 ∧ a1.1 ≤ 9999) ∧ (1 ≤ a2.1 ∧ a2.1 ≤ 12) ∧ (1 ≤ a3.1 ∧ a3.1 ≤ 31) ∧ (0 ≤ a4.1 ∧ a4.1 ≤ 23) := fun e => by
    obtain ⟨e3, p4⟩ := o4 e
    obtain ⟨e2, p3⟩ := o3 e3
    obtain ⟨e1, p2⟩ := o2 e2
    obtain ⟨_, p1⟩ := o1 e1
    exact ⟨p1, p2, ⟨p3.1, by omega⟩, p4⟩
  unfold rdMin at q ⊢
  by_cases c4 : atD a4.2.1 = true
  · rw [if_pos c4] at q ⊢
    have n5 := numR_len 2 0 59 a4.2.1 a4.2.2
    have o5 := @numR_ok 2 0 59 a4.2.1 a4.2.2
    generalize numR 2 0 59 a4.2.1 a4.2.2 = a5 at *
    unfold rdSec at q ⊢
    by_cases c5 : atD a5.2.1 = true
    · rw [if_pos c5] at q ⊢
      have n6 := numR_len 2 0 59 a5.2.1 a5.2.2
      have o6 := @numR_ok 2 0 59 a5.2.1 a5.2.2
      generalize numR 2 0 59 a5.2.1 a5.2.2 = a6 at *
      have n7 := fracR_len a6.2.1 a6.2.2
      have o7 := @fracR_ok a6.2.1 a6.2.2
      generalize fracR a6.2.1 a6.2.2 = a7 at *
      have r := rdEnd_ok q
      obtain ⟨e5, p6⟩ := o6 (o7 r.1)
      obtain ⟨e4, p5⟩ := o5 e5
      obtain ⟨k1, k2, k3, k4⟩ := key e4
      exact ⟨⟨k1, k2, k3, k4, p5, p6, by show a7.1.length ≤ l.length; omega⟩, r.2⟩
    · rw [if_neg c5] at q ⊢
      have r := rdEnd_ok q
      obtain ⟨e4, p5⟩ := o5 r.1
      obtain ⟨k1, k2, k3, k4⟩ := key e4
      exact ⟨⟨k1, k2, k3, k4, p5, ⟨i00, i059⟩, Nat.zero_le _⟩, r.2⟩
  · rw [if_neg c4] at q ⊢
    have r := rdEnd_ok q
    obtain ⟨k1, k2, k3, k4⟩ := key r.1
    exact ⟨⟨k1, k2, k3, k4, ⟨i00, i059⟩, ⟨i00, i059⟩, Nat.zero_le _⟩, r.2⟩
theorem backD_bnd {y mo d tot : Int} (hm : 1 ≤ mo ∧ mo ≤ 12) (hd : 1 ≤ d ∧ d ≤ 31) : (1 ≤ (backD y mo d tot).2.1 ∧ (backD y mo d tot).2.1 ≤ 12) ∧ (1 ≤ (backD y mo d tot).2.2 ∧ (backD y mo d tot).2.2 ≤ 31) := by
  unfold backD ahead behind
  have h1 := lastD_bnd y (mo - 1)
  have h2 := lastD_bnd y mo
  split
  · split
    · exact ⟨hm, by show 1 ≤ d - 1; omega, by show d - 1 ≤ 31; omega⟩
    · split
      · exact ⟨⟨by show 1 ≤ mo - 1; omega, by show mo - 1 ≤ 12; omega⟩, by show 1 ≤ lastD y (mo - 1); omega, by show lastD y (mo - 1) ≤ 31; omega⟩
      · exact ⟨⟨i1_12, i12_12⟩, i1_31, i31_31⟩
  · split
    · split
      · exact ⟨hm, by show 1 ≤ d + 1; omega, by show d + 1 ≤ 31; omega⟩
      · split
        · exact ⟨⟨by show 1 ≤ mo + 1; omega, by show mo + 1 ≤ 12; omega⟩, i11, i1_31⟩
        · exact ⟨⟨i11, i1_12⟩, i11, i1_31⟩
    · exact ⟨hm, hd⟩
/-- A time's normal form: what was read, brought to universal time. -/
def timP (x : (Int × Int × Int × Int × Int × Int × List UInt8) × Int × Bool) : Int × Int × Int := backD x.1.1 x.1.2.1 x.1.2.2.1 (x.1.2.2.2.1 * 60 + x.1.2.2.2.2.1 - x.2.1)
def timT (x : (Int × Int × Int × Int × Int × Int × List UInt8) × Int × Bool) : Int := backT (x.1.2.2.2.1 * 60 + x.1.2.2.2.2.1 - x.2.1)
def timB (x : (Int × Int × Int × Int × Int × Int × List UInt8) × Int × Bool) : Bool := x.2.2 && (decide (0 ≤ (timP x).1) && decide ((timP x).1 ≤ 9999))
def timL (x : (Int × Int × Int × Int × Int × Int × List UInt8) × Int × Bool) : List UInt8 :=
  stampL (timP x).1.toNat (timP x).2.1.toNat (timP x).2.2.toNat ((timT x).tdiv 60).toNat ((timT x).tmod 60).toNat x.1.2.2.2.2.2.1.toNat x.1.2.2.2.2.2.2
def timO (x : (Int × Int × Int × Int × Int × Int × List UInt8) × Int × Bool) : ByteArray := if timB x then S (timL x) else ⟨#[]⟩
end Mt
end Go.Proofs.YtnjodplnbfmjeaaGreatDoor
