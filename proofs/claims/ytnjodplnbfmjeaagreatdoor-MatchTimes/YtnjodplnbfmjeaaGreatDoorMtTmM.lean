import Derived.Test.YtnjodplnbfmjeaaGreatDoorMtTmK
import Derived.Lib.Bytealg
namespace Go.Proofs.YtnjodplnbfmjeaaGreatDoor
open Go.RowKit
set_option linter.unusedVariables false
set_option linter.unusedSimpArgs false
namespace Mt

/-- A digit. -/
def dgc (n : Nat) : UInt8 := UInt8.ofNat (48 + n)
theorem dgc_val {n : Nat} (h : n < 10) : (dgc n).toNat = 48 + n := by
  unfold dgc
  rw [UInt8.toNat_ofNat']
  exact Nat.mod_eq_of_lt (by omega)
theorem rep_one : ∀ k, Lib.repeatL [48] k = List.replicate k 48
  | 0 => rfl
  | k + 1 => by show [48] ++ Lib.repeatL [48] k = _; rw [rep_one k]; rfl
theorem padS (k n : Nat) (hk : 1 ≤ k) (h : n < 10 ^ (k + 1)) : pad (k + 1) n = pad k (n / 10) ++ [dgc (n % 10)] := by
  unfold pad
  by_cases h0 : n < 10
  · have e1 : n / 10 = 0 := Nat.div_eq_of_lt h0
    have e2 : n % 10 = n := Nat.mod_eq_of_lt h0
    rw [e1, e2, Lib.decDigits_one h0, Lib.decDigits_one (by decide : 0 < 10)]
    show Lib.repeatL [48] (k + 1 - 1) ++ [UInt8.ofNat (48 + n)] = Lib.repeatL [48] (k - 1) ++ [UInt8.ofNat (48 + 0)] ++ [dgc n]
    rw [rep_one, rep_one]
    obtain ⟨j, rfl⟩ : ∃ j, k = j + 1 := ⟨k - 1, by omega⟩
    show List.replicate (j + 1) 48 ++ _ = List.replicate j 48 ++ [48] ++ [dgc n]
    rw [List.replicate_succ']
    rfl
  · have e : Lib.decDigits n = Lib.decDigits (n / 10) ++ [dgc (n % 10)] := by
      rw [Lib.decDigits, dif_neg h0]
      rfl
    rw [e, List.length_append]
    have : k + 1 - ((Lib.decDigits (n / 10)).length + [dgc (n % 10)].length) = k - (Lib.decDigits (n / 10)).length := by simp
    rw [this, List.append_assoc]
theorem pad2 {n : Nat} (h : n < 100) : pad 2 n = [dgc (n / 10), dgc (n % 10)] := by
  rw [padS 1 n (Nat.le_refl _) (by omega)]
  have h1 : n / 10 < 10 := by omega
  unfold pad
  rw [Lib.decDigits_one h1]
  rfl
theorem pad4 {n : Nat} (h : n < 10000) : pad 4 n = pad 2 (n / 100) ++ pad 2 (n % 100) := by
  have h1 : n / 10 < 1000 := by omega
  have h2 : n / 100 < 100 := by omega
  have h3 : n % 100 < 100 := Nat.mod_lt _ (by decide)
  rw [padS 3 n (by decide) (by omega), padS 2 (n / 10) (by decide) (by omega), Nat.div_div_eq_div_mul, pad2 h3]
  have e1 : n % 100 / 10 = n / 10 % 10 := by omega
  have e2 : n % 100 % 10 = n % 10 := by omega
  rw [e1, e2, List.append_assoc]
  rfl
theorem dgs_dgc {n : Nat} (h : n < 10) : dgs.contains (dgc n) = true := by
  rw [dg_iff, dgc_val h, Bool.and_eq_true]
  exact ⟨decide_eq_true (by omega), decide_eq_true (by omega)⟩
theorem allD_app (a b : List UInt8) : allD (a ++ b) = (allD a && allD b) := by
  induction a with
  | nil => rfl
  | cons c a ih => rw [List.cons_append, allD_cons, allD_cons, ih, Bool.and_assoc]
theorem allD_pad2 {n : Nat} (h : n < 100) : allD (pad 2 n) = true := by
  rw [pad2 h, allD_cons, allD_cons, dgs_dgc (by omega), dgs_dgc (by omega)]
  rfl
theorem digV_pad2 {n : Nat} (h : n < 100) : digV (pad 2 n) = n := by
  rw [pad2 h]
  unfold digV
  simp only [List.foldl_cons, List.foldl_nil, dgc_val (show n / 10 < 10 by omega), dgc_val (show n % 10 < 10 by omega)]
  omega
theorem digV_pad22 {a b : Nat} (ha : a < 100) (hb : b < 100) : digV (pad 2 a ++ pad 2 b) = a * 100 + b := by
  have h1 := digV_pad2 ha
  have h2 := digV_pad2 hb
  rw [pad2 ha, pad2 hb] at *
  unfold digV at *
  simp only [List.foldl_cons, List.foldl_nil, List.cons_append, List.nil_append] at *
  omega
theorem numR_app {n : Nat} {lo hi : Int} {p r : List UInt8} {br : Bool} (hn : p.length = n) (hd : allD p = true) : numR n lo hi (p ++ r) br = ((digV p : Int), r, br || (decide ((digV p : Int) < lo) || decide (hi < (digV p : Int)))) := by
  unfold numR
  rw [if_neg (by rw [List.length_append]; omega)]
  have e1 : (p ++ r).take n = p := by rw [← hn]; exact List.take_left
  have e2 : (p ++ r).drop n = r := by rw [← hn]; exact List.drop_left
  rw [e1, e2, if_pos hd]
theorem pad2_len {n : Nat} (h : n < 100) : (pad 2 n).length = 2 := by rw [pad2 h]; rfl
theorem numR_two {n : Nat} {lo hi : Int} {r : List UInt8} (h : n < 100) (h0 : lo ≤ (n : Int)) (h1 : (n : Int) ≤ hi) : numR 2 lo hi (pad 2 n ++ r) false = ((n : Int), r, false) := by
  rw [numR_app (pad2_len h) (allD_pad2 h), digV_pad2 h, decide_eq_false (by omega), decide_eq_false (by omega)]
  rfl
theorem atD_pad2 {n : Nat} (h : n < 100) (r : List UInt8) : atD (pad 2 n ++ r) = true := by
  rw [pad2 h]
  show (true && allD [dgc (n / 10)]) = true
  rw [allD_cons, dgs_dgc (by omega)]
  rfl
/-- What stands ahead of the seconds. -/
def hdT (y mo d h mi : Nat) (l : List UInt8) : List UInt8 := pad 2 (y / 100) ++ (pad 2 (y % 100) ++ (pad 2 mo ++ (pad 2 d ++ (pad 2 h ++ (pad 2 mi ++ l)))))
theorem rd_head {y mo d h mi : Nat} (l : List UInt8) (hy : y < 10000) (hmo : 1 ≤ mo ∧ mo ≤ 12) (hd : 1 ≤ d ∧ d ≤ 28) (hh : h ≤ 23) (hmi : mi ≤ 59) : rdT (hdT y mo d h mi l) = rdSec y mo d h mi l false := by
  unfold rdT hdT
  have e1 : numR 4 0 9999 (pad 2 (y / 100) ++ (pad 2 (y % 100) ++ (pad 2 mo ++ (pad 2 d ++ (pad 2 h ++ (pad 2 mi ++ l)))))) false = ((y : Int), pad 2 mo ++ (pad 2 d ++ (pad 2 h ++ (pad 2 mi ++ l))), false) := by
    have h1 : y / 100 < 100 := by omega
    have h2 : y % 100 < 100 := Nat.mod_lt _ (by decide)
    have hv : digV (pad 2 (y / 100) ++ pad 2 (y % 100)) = y := by rw [digV_pad22 h1 h2]; omega
    rw [← List.append_assoc, numR_app (by rw [List.length_append, pad2_len h1, pad2_len h2]) (by rw [allD_app, allD_pad2 h1, allD_pad2 h2]; rfl), hv, decide_eq_false (by omega), decide_eq_false (by omega)]
    rfl
  rw [e1]
  show rdMo (y : Int) (numR 2 1 12 (pad 2 mo ++ (pad 2 d ++ (pad 2 h ++ (pad 2 mi ++ l)))) false) = _
  rw [numR_two (by omega) (by omega) (by omega)]
  have hL := lastD_bnd (y : Int) (mo : Int)
  show rdDay (y : Int) (mo : Int) (numR 2 1 (lastD (y : Int) (mo : Int)) (pad 2 d ++ (pad 2 h ++ (pad 2 mi ++ l))) false) = _
  rw [numR_two (by omega) (by omega) (by omega)]
  show rdHr (y : Int) (mo : Int) (d : Int) (numR 2 0 23 (pad 2 h ++ (pad 2 mi ++ l)) false) = _
  rw [numR_two (by omega) (by omega) (by omega)]
  show rdMin (y : Int) (mo : Int) (d : Int) (h : Int) (pad 2 mi ++ l) false = _
  unfold rdMin
  rw [if_pos (atD_pad2 (by omega) l), numR_two (by omega) (by omega) (by omega)]
/-- No seconds: Z, or a zone. -/
theorem rd_Z (y mo d h mi : Int) : rdSec y mo d h mi [90] false = ((y, mo, d, h, mi, 0, []), 0, true) := by
  unfold rdSec
  rw [if_neg (by decide)]
  unfold rdEnd
  rw [show zoR [90] false = (0, [], false) from by decide]
  rfl
theorem zm_two {a b : Nat} (ha : a ≤ 23) (hb : b ≤ 59) : zmR (pad 2 a ++ pad 2 b) false = (((a * 60 + b : Nat) : Int), [], false) := by
  have hb2 : b < 100 := by omega
  unfold zmR
  rw [numR_two (r := pad 2 b) (by omega) (by omega) (by omega), if_neg (by show ¬ pad 2 b = []; rw [pad2 hb2]; simp)]
  have : numR 2 0 59 (pad 2 b) false = ((b : Int), [], false) := by
    have h := numR_two (n := b) (lo := 0) (hi := 59) (r := []) hb2 (by omega) (by omega)
    rwa [List.append_nil] at h
  show ((a : Int) * 60 + (numR 2 0 59 (pad 2 b) false).1, (numR 2 0 59 (pad 2 b) false).2) = _
  rw [this]
  show ((a : Int) * 60 + (b : Int), _) = _
  rw [show ((a * 60 + b : Nat) : Int) = (a : Int) * 60 + (b : Int) by omega]
theorem rd_zone (y mo d h mi : Int) {a b : Nat} (sg : Bool) (ha : a ≤ 23) (hb : b ≤ 59) : rdSec y mo d h mi ((if sg then [43] else [45]) ++ (pad 2 a ++ pad 2 b)) false = ((y, mo, d, h, mi, 0, []), (if sg then ((a * 60 + b : Nat) : Int) else -((a * 60 + b : Nat) : Int)), true) := by
  unfold rdSec
  cases sg with
  | true =>
    have hz : zoR ([43] ++ (pad 2 a ++ pad 2 b)) false = (((a * 60 + b : Nat) : Int), [], false) := by
      unfold zoR
      rw [if_neg (by simp [Lib.hasPrefix]), if_pos (by simp [Lib.hasPrefix])]
      rw [show Lib.trimPrefix ([43] ++ (pad 2 a ++ pad 2 b)) [43] = pad 2 a ++ pad 2 b by simp [Lib.trimPrefix, Lib.hasPrefix], zm_two ha hb]
    rw [show ((if true then [43] else [45] : List UInt8)) = [43] from rfl, if_neg (by rw [show atD ([43] ++ (pad 2 a ++ pad 2 b)) = false from rfl]; simp)]
    unfold rdEnd
    rw [hz]
    rfl
  | false =>
    have hz : zoR ([45] ++ (pad 2 a ++ pad 2 b)) false = (-((a * 60 + b : Nat) : Int), [], false) := by
      unfold zoR
      rw [if_neg (by simp [Lib.hasPrefix]), if_neg (by simp [Lib.hasPrefix]), if_pos (by simp [Lib.hasPrefix])]
      rw [show Lib.trimPrefix ([45] ++ (pad 2 a ++ pad 2 b)) [45] = pad 2 a ++ pad 2 b by simp [Lib.trimPrefix, Lib.hasPrefix], zm_two ha hb]
    rw [show ((if false then [43] else [45] : List UInt8)) = [45] from rfl, if_neg (by rw [show atD ([45] ++ (pad 2 a ++ pad 2 b)) = false from rfl]; simp)]
    unfold rdEnd
    rw [hz]
    rfl
/-- Two texts of one length ahead. -/
theorem cmp_app : ∀ (p q r s : List UInt8), p.length = q.length → Lib.compareBytes (p ++ r) (q ++ s) = if Lib.compareBytes p q = 0 then Lib.compareBytes r s else Lib.compareBytes p q
  | [], [], r, s, _ => by show Lib.compareBytes r s = _; simp [Lib.compareBytes]
  | a :: p, b :: q, r, s, h => by
    show (if a < b then (-1 : Int) else if b < a then 1 else Lib.compareBytes (p ++ r) (q ++ s)) = if (if a < b then (-1 : Int) else if b < a then 1 else Lib.compareBytes p q) = 0 then _ else (if a < b then (-1 : Int) else if b < a then 1 else Lib.compareBytes p q)
    by_cases h1 : a < b
    · rw [if_pos h1, if_pos h1, if_neg (by decide)]
    · rw [if_neg h1, if_neg h1]
      by_cases h2 : b < a
      · rw [if_pos h2, if_pos h2, if_neg (by decide)]
      · rw [if_neg h2, if_neg h2]
        exact cmp_app p q r s (by simpa using h)
  | [], _ :: _, _, _, h => by simp at h
  | _ :: _, [], _, _, h => by simp at h
theorem cmp_self : ∀ l : List UInt8, Lib.compareBytes l l = 0
  | [] => rfl
  | a :: l => by
    show (if a < a then (-1 : Int) else if a < a then 1 else Lib.compareBytes l l) = 0
    rw [if_neg (by simp), if_neg (by simp), cmp_self l]
theorem cmp_eq : ∀ (p q : List UInt8), Lib.compareBytes p q = 0 → p = q
  | [], [], _ => rfl
  | [], _ :: _, h => by simp [Lib.compareBytes] at h
  | _ :: _, [], h => by simp [Lib.compareBytes] at h
  | a :: p, b :: q, h => by
    have h : (if a < b then (-1 : Int) else if b < a then 1 else Lib.compareBytes p q) = 0 := h
    by_cases h1 : a < b
    · rw [if_pos h1] at h; exact absurd h (by decide)
    · rw [if_neg h1] at h
      by_cases h2 : b < a
      · rw [if_pos h2] at h; exact absurd h (by decide)
      · rw [if_neg h2] at h
        have e : a = b := UInt8.le_antisymm (UInt8.not_lt.1 h2) (UInt8.not_lt.1 h1)
        rw [e, cmp_eq p q h]
/-- How two numbers stand. -/
def sg (a b : Nat) : Int := if a < b then -1 else if b < a then 1 else 0
theorem sg_lt {a b : Nat} (h : a < b) : sg a b = -1 := if_pos h
theorem sg_gt {a b : Nat} (h : b < a) : sg a b = 1 := by unfold sg; rw [if_neg (by omega), if_pos h]
theorem sg_eq {a b : Nat} (h : a = b) : sg a b = 0 := by unfold sg; rw [if_neg (by omega), if_neg (by omega)]
theorem cmp_one {a b : Nat} (ha : a < 10) (hb : b < 10) : Lib.compareBytes [dgc a] [dgc b] = sg a b := by
  show (if dgc a < dgc b then (-1 : Int) else if dgc b < dgc a then 1 else 0) = sg a b
  have e1 : (dgc a < dgc b) = (a < b) := by rw [UInt8.lt_iff_toNat_lt, dgc_val ha, dgc_val hb]; exact propext ⟨fun h => by omega, fun h => by omega⟩
  have e2 : (dgc b < dgc a) = (b < a) := by rw [UInt8.lt_iff_toNat_lt, dgc_val ha, dgc_val hb]; exact propext ⟨fun h => by omega, fun h => by omega⟩
  unfold sg
  simp only [e1, e2]
theorem sg_two {a b c d k : Nat} (hb : b < k) (hd : d < k) : (if sg a c = 0 then sg b d else sg a c) = sg (a * k + b) (c * k + d) := by
  rcases Nat.lt_trichotomy a c with h | h | h
  · have : a * k + b < c * k + d := by
      have : (a + 1) * k ≤ c * k := Nat.mul_le_mul_right _ h
      have : (a + 1) * k = a * k + k := Nat.succ_mul _ _
      omega
    rw [sg_lt h, sg_lt this, if_neg (by decide)]
  · subst h
    rw [sg_eq rfl, if_pos rfl]
    rcases Nat.lt_trichotomy b d with h | h | h
    · rw [sg_lt h, sg_lt (by omega)]
    · rw [sg_eq h, sg_eq (by omega)]
    · rw [sg_gt h, sg_gt (by omega)]
  · have : c * k + d < a * k + b := by
      have : (c + 1) * k ≤ a * k := Nat.mul_le_mul_right _ h
      have : (c + 1) * k = c * k + k := Nat.succ_mul _ _
      omega
    rw [sg_gt h, sg_gt this, if_neg (by decide)]
theorem cmp_pad2 {a b : Nat} (ha : a < 100) (hb : b < 100) : Lib.compareBytes (pad 2 a) (pad 2 b) = sg a b := by
  rw [pad2 ha, pad2 hb]
  show Lib.compareBytes ([dgc (a / 10)] ++ [dgc (a % 10)]) ([dgc (b / 10)] ++ [dgc (b % 10)]) = _
  rw [cmp_app [dgc (a / 10)] [dgc (b / 10)] [dgc (a % 10)] [dgc (b % 10)] rfl, cmp_one (a := a / 10) (b := b / 10) (by omega) (by omega), cmp_one (a := a % 10) (b := b % 10) (by omega) (by omega), sg_two (k := 10) (by omega) (by omega)]
  rw [show a / 10 * 10 + a % 10 = a by omega, show b / 10 * 10 + b % 10 = b by omega]
/-- A stamp's numbers, compared. -/
def key (y mo d m : Nat) : Nat := ((y * 12 + mo) * 31 + d) * 1440 + m
theorem acc_eq (y mo d h mi s : Nat) : accT y (five mo d h mi s) 5 = pad 4 y ++ pad 2 mo ++ pad 2 d ++ pad 2 h ++ pad 2 mi ++ pad 2 s := rfl
theorem acc_len {y mo d h mi : Nat} (s : Nat) (hy : y < 10000) (hmo : mo < 100) (hd : d < 100) (hh : h < 100) (hmi : mi < 100) : (pad 4 y ++ pad 2 mo ++ pad 2 d ++ pad 2 h ++ pad 2 mi).length = 12 := by
  rw [pad4 hy]
  simp only [List.length_append, pad2_len hmo, pad2_len hd, pad2_len hh, pad2_len hmi, pad2_len (show y / 100 < 100 by omega), pad2_len (show y % 100 < 100 from Nat.mod_lt _ (by decide))]
theorem cmp_front {y mo d h mi y' mo' d' h' mi' : Nat} (hy : y < 10000) (hmo : 1 ≤ mo ∧ mo ≤ 12) (hd : 1 ≤ d ∧ d ≤ 31) (hh : h < 24) (hmi : mi < 60) (hy' : y' < 10000) (hmo' : 1 ≤ mo' ∧ mo' ≤ 12) (hd' : 1 ≤ d' ∧ d' ≤ 31) (hh' : h' < 24) (hmi' : mi' < 60) :
    Lib.compareBytes (pad 4 y ++ pad 2 mo ++ pad 2 d ++ pad 2 h ++ pad 2 mi) (pad 4 y' ++ pad 2 mo' ++ pad 2 d' ++ pad 2 h' ++ pad 2 mi') = sg (key y mo d (h * 60 + mi)) (key y' mo' d' (h' * 60 + mi')) := by
  have l2 : ∀ {n m : Nat}, n < 100 → m < 100 → (pad 2 n).length = (pad 2 m).length := fun h1 h2 => by rw [pad2_len h1, pad2_len h2]
  have a1 : y / 100 < 100 := by omega
  have a2 : y % 100 < 100 := Nat.mod_lt _ (by decide)
  have b1 : y' / 100 < 100 := by omega
  have b2 : y' % 100 < 100 := Nat.mod_lt _ (by decide)
  have e4 : Lib.compareBytes (pad 4 y) (pad 4 y') = sg y y' := by
    rw [pad4 hy, pad4 hy', cmp_app _ _ _ _ (l2 a1 b1), cmp_pad2 a1 b1, cmp_pad2 a2 b2, sg_two (k := 100) a2 b2, show y / 100 * 100 + y % 100 = y by omega, show y' / 100 * 100 + y' % 100 = y' by omega]
  have n4 : (pad 4 y).length = (pad 4 y').length := by rw [pad4 hy, pad4 hy', List.length_append, List.length_append, pad2_len a1, pad2_len a2, pad2_len b1, pad2_len b2]
  have n6 : (pad 4 y ++ pad 2 mo).length = (pad 4 y' ++ pad 2 mo').length := by rw [List.length_append, List.length_append, n4, l2 (n := mo) (m := mo') (by omega) (by omega)]
  have n8 : (pad 4 y ++ pad 2 mo ++ pad 2 d).length = (pad 4 y' ++ pad 2 mo' ++ pad 2 d').length := by have e := l2 (n := d) (m := d') (by omega) (by omega); simp only [List.length_append] at n6 ⊢; omega
  have n10 : (pad 4 y ++ pad 2 mo ++ pad 2 d ++ pad 2 h).length = (pad 4 y' ++ pad 2 mo' ++ pad 2 d' ++ pad 2 h').length := by have e := l2 (n := h) (m := h') (by omega) (by omega); simp only [List.length_append] at n8 ⊢; omega
  rw [cmp_app _ _ _ _ n10, cmp_app _ _ _ _ n8, cmp_app _ _ _ _ n6, cmp_app _ _ _ _ n4, e4, cmp_pad2 (a := mo) (b := mo') (by omega) (by omega), cmp_pad2 (a := d) (b := d') (by omega) (by omega), cmp_pad2 (a := h) (b := h') (by omega) (by omega), cmp_pad2 (a := mi) (b := mi') (by omega) (by omega)]
  have s1 : (if sg y y' = 0 then sg mo mo' else sg y y') = sg (y * 12 + (mo - 1)) (y' * 12 + (mo' - 1)) := by
    rw [← sg_two (k := 12) (b := mo - 1) (d := mo' - 1) (by omega) (by omega)]
    have : sg mo mo' = sg (mo - 1) (mo' - 1) := by unfold sg; simp only [show (mo < mo') = (mo - 1 < mo' - 1) from propext ⟨fun _ => by omega, fun _ => by omega⟩, show (mo' < mo) = (mo' - 1 < mo - 1) from propext ⟨fun _ => by omega, fun _ => by omega⟩]
    rw [this]
  rw [s1]
  have s2 : (if sg (y * 12 + (mo - 1)) (y' * 12 + (mo' - 1)) = 0 then sg d d' else sg (y * 12 + (mo - 1)) (y' * 12 + (mo' - 1))) = sg ((y * 12 + (mo - 1)) * 31 + (d - 1)) ((y' * 12 + (mo' - 1)) * 31 + (d' - 1)) := by
    rw [← sg_two (k := 31) (b := d - 1) (d := d' - 1) (by omega) (by omega)]
    have : sg d d' = sg (d - 1) (d' - 1) := by unfold sg; simp only [show (d < d') = (d - 1 < d' - 1) from propext ⟨fun _ => by omega, fun _ => by omega⟩, show (d' < d) = (d' - 1 < d - 1) from propext ⟨fun _ => by omega, fun _ => by omega⟩]
    rw [this]
  rw [s2, sg_two (k := 24) hh hh', sg_two (k := 60) hmi hmi']
  unfold key
  unfold sg
  have i1 : ((((y * 12 + (mo - 1)) * 31 + (d - 1)) * 24 + h) * 60 + mi < (((y' * 12 + (mo' - 1)) * 31 + (d' - 1)) * 24 + h') * 60 + mi') = (((y * 12 + mo) * 31 + d) * 1440 + (h * 60 + mi) < ((y' * 12 + mo') * 31 + d') * 1440 + (h' * 60 + mi')) := propext ⟨fun _ => by omega, fun _ => by omega⟩
  have i2 : ((((y' * 12 + (mo' - 1)) * 31 + (d' - 1)) * 24 + h') * 60 + mi' < (((y * 12 + (mo - 1)) * 31 + (d - 1)) * 24 + h) * 60 + mi) = (((y' * 12 + mo') * 31 + d') * 1440 + (h' * 60 + mi') < ((y * 12 + mo) * 31 + d) * 1440 + (h * 60 + mi)) := propext ⟨fun _ => by omega, fun _ => by omega⟩
  simp only [i1, i2]
/-- The normal form of a minute, in whatever zone it is written. -/
theorem tim_Z {y mo d h mi : Nat} (s : Nat) (f : List UInt8) (hy : y < 10000) (hh : h < 24) (hmi : mi < 60) :
    timB (((y : Int), (mo : Int), (d : Int), (h : Int), (mi : Int), (s : Int), f), 0, true) = true ∧ timO (((y : Int), (mo : Int), (d : Int), (h : Int), (mi : Int), (s : Int), f), 0, true) = S (stampL y mo d h mi s f) := by
  have hb : backD (y : Int) (mo : Int) (d : Int) ((h : Int) * 60 + (mi : Int) - 0) = ((y : Int), (mo : Int), (d : Int)) := by
    unfold backD
    rw [if_neg (by omega), if_neg (by omega)]
  have ht : backT ((h : Int) * 60 + (mi : Int) - 0) = (h : Int) * 60 + (mi : Int) := by
    unfold backT
    rw [if_neg (by omega), if_neg (by omega)]
    omega
  have hB : timB (((y : Int), (mo : Int), (d : Int), (h : Int), (mi : Int), (s : Int), f), 0, true) = true := by
    unfold timB timP
    dsimp only
    rw [hb]
    dsimp only
    rw [decide_eq_true (by omega), decide_eq_true (by omega)]
    rfl
  refine ⟨hB, ?_⟩
  unfold timO
  rw [hB, if_pos rfl]
  unfold timL timP timT
  dsimp only
  rw [hb, ht, Int.tdiv_eq_ediv_of_nonneg (by omega), Int.tmod_eq_emod_of_nonneg (by omega)]
  dsimp only
  rw [show ((h : Int) * 60 + (mi : Int)) / 60 = (h : Int) by omega, show ((h : Int) * 60 + (mi : Int)) % 60 = (mi : Int) by omega]
  simp only [Int.toNat_natCast]
theorem tim_z {y mo d m : Nat} {d' m' : Nat} {z : Int} (hy : y < 10000) (hmo : 1 ≤ mo ∧ mo ≤ 12) (hd : 2 ≤ d ∧ d ≤ 27) (hm : m < 1440) (hm' : m' < 1440)
    (hc : ((m : Int) + z < 0 ∧ (d' : Int) = d - 1 ∧ (m' : Int) = m + z + 1440) ∨ (0 ≤ (m : Int) + z ∧ (m : Int) + z < 1440 ∧ d' = d ∧ (m' : Int) = m + z) ∨ (1440 ≤ (m : Int) + z ∧ d' = d + 1 ∧ (m' : Int) = m + z - 1440)) :
    timB (((y : Int), (mo : Int), (d' : Int), ((m' / 60 : Nat) : Int), ((m' % 60 : Nat) : Int), 0, []), z, true) = true ∧ timO (((y : Int), (mo : Int), (d' : Int), ((m' / 60 : Nat) : Int), ((m' % 60 : Nat) : Int), 0, []), z, true) = S (stampL y mo d (m / 60) (m % 60) 0 []) := by
  have hL := lastD_bnd (y : Int) (mo : Int)
  obtain ⟨tot, htot⟩ : ∃ tot, ((m' / 60 : Nat) : Int) * 60 + ((m' % 60 : Nat) : Int) - z = tot := ⟨_, rfl⟩
  have hb : backD (y : Int) (mo : Int) (d' : Int) tot = ((y : Int), (mo : Int), (d : Int)) ∧ backT tot = (m : Int) := by
    unfold backD backT ahead behind
    rcases hc with ⟨c1, c2, c3⟩ | ⟨c1, c2, c3, c4⟩ | ⟨c1, c2, c3⟩
    · rw [if_neg (by omega), if_pos (by omega), if_pos (by omega), if_neg (by omega), if_pos (by omega)]
      exact ⟨by rw [show (d' : Int) + 1 = d by omega], by omega⟩
    · rw [if_neg (by omega), if_neg (by omega), if_neg (by omega), if_neg (by omega), c3]
      exact ⟨rfl, by omega⟩
    · rw [if_pos (by omega), if_pos (by omega), if_pos (by omega)]
      exact ⟨by rw [show (d' : Int) - 1 = d by omega], by omega⟩
  have hB : timB (((y : Int), (mo : Int), (d' : Int), ((m' / 60 : Nat) : Int), ((m' % 60 : Nat) : Int), 0, []), z, true) = true := by
    unfold timB timP
    dsimp only
    rw [htot, hb.1]
    dsimp only
    rw [decide_eq_true (by omega), decide_eq_true (by omega)]
    rfl
  refine ⟨hB, ?_⟩
  unfold timO
  rw [hB, if_pos rfl]
  unfold timL timP timT
  dsimp only
  rw [htot, hb.1, hb.2, Int.tdiv_eq_ediv_of_nonneg (by omega), Int.tmod_eq_emod_of_nonneg (by omega)]
  dsimp only
  rw [show (m : Int) / 60 = ((m / 60 : Nat) : Int) by omega, show (m : Int) % 60 = ((m % 60 : Nat) : Int) by omega]
  simp only [Int.toNat_natCast]
  rfl
end Mt
end Go.Proofs.YtnjodplnbfmjeaaGreatDoor
