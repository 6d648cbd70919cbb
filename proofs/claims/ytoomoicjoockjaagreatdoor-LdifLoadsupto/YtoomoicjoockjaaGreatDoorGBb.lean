import Derived.Test.YtoomoicjoockjaaGreatDoorInfo
import Derived.Test.YtoomoicjoockjaaGreatDoorBytes
import Derived.Test.YtoomoicjoockjaaGreatDoorGNorm
import Derived.Test.YtoomoicjoockjaaGreatDoorUbMath
import Derived.Deep.DeepCutAuto
import Derived.BigQuiet
import Derived.Lib.AppendStr
namespace Go.Proofs.YtoomoicjoockjaaGreatDoor
open Go.RowKit
open TextMath (fold lo)

set_option maxHeartbeats 1000000 in
theorem rFold_any (s : ByteArray) (w : World) (hm : s.size ≤ 140737488355328) :
    Calls Tryz.prog 28 #[.string s] w fun e w' => e = .returned (.string (S (fold s.data.toList))) ∧ Below w.heap.size w w' := by
  have hL : Hid (s.data.toList.length = s.size) := size_l s
  obtain ⟨i0, hi, hz0, hz1, hz2⟩ := info_parts info_u8
  go_enter Tryz.func28, Tryz.ntmps28
  go_wp2
  go_loopw [3, 4] (fun out i wr => ∃ k : Nat, k ≤ s.size ∧ i = .int .i64 k ∧ Below w.heap.size w wr ∧ wr.ownsRow w.heap.size 5 1 out k (bv (fold (s.data.toList.take k)))) (fun _ i _ => s.size - (intOf i).toNat)
  case atStart => exact ⟨0, Nat.zero_le _, rfl, Below.refl _ _, World.ownsRow_nil _ _ _ _⟩
  case round =>
    obtain ⟨k, hk, rfl, hb, hown⟩ := hrel
    have hgs' := hb.size
    by_cases hlt : k < s.size
    · have hkl : k < s.data.toList.length := by rw [hL.out]; exact hlt
      have hsn : Hid (bv (fold (s.data.toList.take (k + 1))) = bv (fold (s.data.toList.take k)) ++ [.int .u8 ((lo s[k]).toNat : Int)]) := by unfold Hid; rw [fold_snoc _ _ hkl, bv_app]; rfl
      have hc256 : s[k].toNat < 256 := s[k].toNat_lt
      by_cases h1 : (65 : Int) ≤ s[k].toNat ∧ (s[k].toNat : Int) ≤ 90
      · have hlo : Hid (((lo s[k]).toNat : Int) = s[k].toNat + 32) := lo_big _ h1.1 h1.2
        obtain ⟨h1, h2⟩ := h1
        go_wp2_with (at_builtin; refine wpList_append_own _ rfl _ _ 51 rfl w.heap.size 5 i0 (.int .u8 0) 1 1 Tryz.underlying51 hi hz0 hz1 hz2 rfl (by decide) _ _ _ rfl (hown.alloc _) ⟨wr.heap.size, 0, none⟩ 1 1 [.int .u8 ((s[k].toNat : Int) + 32)] rfl rfl ?_ ?_ ?_ ?_ ?_ ?_; exact cell_one_new _ _ _; (intro u hu; simp at hu; subst hu; rfl); (unfold maxLen; omega); omega; (simp; omega); intro v1 w1 hown1 hgrow1 _)
        go_roundw
        case rel =>
          refine ⟨k + 1, by omega, by go_num, ?_, ?_⟩
          · exact (hb.alloc hgs' _).grown hgrow1 (by simp; omega) (fun j h => (hown.lt j h).1)
          · rw [hsn.out, hlo.out]; exact hown1
        case measure => simp [intOf]; omega
      · have hlo : Hid (lo s[k] = s[k]) := lo_small _ h1
        by_cases h2 : (65 : Int) ≤ s[k].toNat
        · have h3 : ¬ (s[k].toNat : Int) ≤ 90 := fun h => h1 ⟨h2, h⟩
          clear h1
          go_wp2_with (at_builtin; refine wpList_append_own _ rfl _ _ 51 rfl w.heap.size 5 i0 (.int .u8 0) 1 1 Tryz.underlying51 hi hz0 hz1 hz2 rfl (by decide) _ _ _ rfl (hown.alloc _) ⟨wr.heap.size, 0, none⟩ 1 1 [.int .u8 (s[k].toNat : Int)] rfl rfl ?_ ?_ ?_ ?_ ?_ ?_; exact cell_one_new _ _ _; (intro u hu; simp at hu; subst hu; rfl); (unfold maxLen; omega); omega; (simp; omega); intro v1 w1 hown1 hgrow1 _)
          go_roundw
          case rel =>
            refine ⟨k + 1, by omega, by go_num, ?_, ?_⟩
            · exact (hb.alloc hgs' _).grown hgrow1 (by simp; omega) (fun j h => (hown.lt j h).1)
            · rw [hsn.out, hlo.out]; exact hown1
          case measure => simp [intOf]; omega
        · clear h1
          go_wp2_with (at_builtin; refine wpList_append_own _ rfl _ _ 51 rfl w.heap.size 5 i0 (.int .u8 0) 1 1 Tryz.underlying51 hi hz0 hz1 hz2 rfl (by decide) _ _ _ rfl (hown.alloc _) ⟨wr.heap.size, 0, none⟩ 1 1 [.int .u8 (s[k].toNat : Int)] rfl rfl ?_ ?_ ?_ ?_ ?_ ?_; exact cell_one_new _ _ _; (intro u hu; simp at hu; subst hu; rfl); (unfold maxLen; omega); omega; (simp; omega); intro v1 w1 hown1 hgrow1 _)
          go_roundw
          case rel =>
            refine ⟨k + 1, by omega, by go_num, ?_, ?_⟩
            · exact (hb.alloc hgs' _).grown hgrow1 (by simp; omega) (fun j h => (hown.lt j h).1)
            · rw [hsn.out, hlo.out]; exact hown1
          case measure => simp [intOf]; omega
    · have hback := own_back_any (P := Tryz.prog) wr w.heap.size 51 9 5 _ _ _ Tryz.underlying51 Tryz.underlying5 Tryz.underlying9 hown
      rw [List.take_of_length_le (by rw [hL.out]; omega)] at hback
      clear hown
      go_wp2
      go_ret
      exact ⟨rfl, hb⟩
end Go.Proofs.YtoomoicjoockjaaGreatDoor

namespace Go.Proofs.YtoomoicjoockjaaGreatDoor
namespace TextMath

/-- The digit of a number below 16. -/
def dg (n : Nat) : UInt8 := UInt8.ofNat (if n < 10 then 48 + n else 87 + n)
def hex (l : List UInt8) : List UInt8 := l.flatMap fun b => [dg (b.toNat / 16), dg (b.toNat % 16)]

/-- The worth of a digit. -/
def wo (b : UInt8) : Option Nat :=
  if 48 ≤ b.toNat ∧ b.toNat ≤ 57 then some (b.toNat - 48)
  else if 97 ≤ b.toNat ∧ b.toNat ≤ 102 then some (b.toNat - 87)
  else if 65 ≤ b.toNat ∧ b.toNat ≤ 70 then some (b.toNat - 55) else none

theorem dg_toNat (n : Nat) (h : n < 16) : (dg n).toNat = if n < 10 then 48 + n else 87 + n := by
  unfold dg; rw [UInt8.toNat_ofNat']; split <;> omega
theorem wo_dg (n : Nat) (h : n < 16) : wo (dg n) = some n := by
  have := dg_toNat n h
  unfold wo; rw [this]
  by_cases h' : n < 10
  · rw [if_pos h', if_pos (by omega)]; congr 1; omega
  · rw [if_neg h', if_neg (by omega), if_pos (by omega)]; congr 1; omega
theorem wo_lt (b : UInt8) (n : Nat) (h : wo b = some n) : n < 16 := by
  unfold wo at h
  repeat' split at h
  all_goals first | (injection h with h; omega) | cases h

/-- Unhex: the bytes, or the place. -/
def unhex : List UInt8 → Nat → Except Nat (List UInt8)
  | [], _ => .ok []
  | [a], k => match wo a with
    | none => .error k
    | some _ => .error (k + 1)
  | a :: b :: t, k => match wo a, wo b with
    | none, _ => .error k
    | some _, none => .error (k + 1)
    | some x, some y => match unhex t (k + 2) with
      | .ok r => .ok (UInt8.ofNat (16 * x + y) :: r)
      | .error p => .error p

def pre (o : List UInt8) : Except Nat (List UInt8) → Except Nat (List UInt8)
  | .ok t => .ok (o ++ t)
  | .error p => .error p
theorem pre_nil (r : Except Nat (List UInt8)) : pre [] r = r := by cases r <;> rfl
theorem pre_pre (o p : List UInt8) (r : Except Nat (List UInt8)) : pre o (pre p r) = pre (o ++ p) r := by cases r <;> simp [pre]
theorem unhex_bad (a : UInt8) (t : List UInt8) (k : Nat) (h : wo a = none) : unhex (a :: t) k = .error k := by
  cases t with
  | nil => simp [unhex, h]
  | cons b r => simp [unhex, h]
theorem unhex_odd (a : UInt8) (k : Nat) (x : Nat) (h : wo a = some x) : unhex [a] k = .error (k + 1) := by simp [unhex, h]
theorem unhex_bad2 (a b : UInt8) (t : List UInt8) (k x : Nat) (h : wo a = some x) (hb : wo b = none) : unhex (a :: b :: t) k = .error (k + 1) := by simp [unhex, h, hb]
theorem unhex_pair (a b : UInt8) (t : List UInt8) (k x y : Nat) (h : wo a = some x) (hb : wo b = some y) : unhex (a :: b :: t) k = pre [UInt8.ofNat (16 * x + y)] (unhex t (k + 2)) := by
  simp only [unhex, h, hb]
  cases unhex t (k + 2) <;> rfl
end TextMath
end Go.Proofs.YtoomoicjoockjaaGreatDoor

namespace Go.Proofs.YtoomoicjoockjaaGreatDoor
namespace TextMath

theorem hex_cons (b : UInt8) (t : List UInt8) : hex (b :: t) = dg (b.toNat / 16) :: dg (b.toNat % 16) :: hex t := by simp [hex]
theorem hex_len (l : List UInt8) : (hex l).length = 2 * l.length := by
  induction l with
  | nil => rfl
  | cons b t ih => rw [hex_cons]; simp [ih]; omega
theorem ofNat_pair (b : UInt8) : UInt8.ofNat (16 * (b.toNat / 16) + b.toNat % 16) = b := by
  have : 16 * (b.toNat / 16) + b.toNat % 16 = b.toNat := Nat.div_add_mod _ _
  rw [this]; simp

/-- Digits in either case of their letters mean the same. -/
theorem unhex_like : ∀ (l : List UInt8) (m : List UInt8) (k : Nat), m.length = (hex l).length → (∀ i, i < m.length → wo (m.getD i 0) = wo ((hex l).getD i 0)) → unhex m k = .ok l
  | [], m, k, h, _ => by
    have : m = [] := List.eq_nil_of_length_eq_zero (by simpa [hex] using h)
    subst this; rfl
  | b :: t, m, k, h, hd => by
    rw [hex_cons] at h hd
    match m, h, hd with
    | x :: y :: r, h, hd =>
      have h0 := hd 0 (by simp)
      have h1 := hd 1 (by simp)
      simp only [List.getD_cons_zero, List.getD_cons_succ] at h0 h1
      have b1 := b.toNat_lt
      rw [wo_dg _ (by omega)] at h0 h1
      rw [unhex_pair x y r k _ _ h0 h1, unhex_like t r (k + 2) (by simpa using h) (fun i hi => by
        have := hd (i + 2) (by simpa using hi)
        simpa using this)]
      rw [ofNat_pair]; rfl
theorem unhex_hex (l : List UInt8) : unhex (hex l) 0 = .ok l := unhex_like l (hex l) 0 rfl fun _ _ => rfl

theorem dg_wo (c : UInt8) (x : Nat) (h : wo c = some x) : dg x = lo c := by
  apply UInt8.toNat_inj.1
  have hx := wo_lt c x h
  rw [dg_toNat x hx, lo_toNat]
  unfold wo at h
  split at h
  · injection h with h; rw [if_pos (by omega), if_neg (by omega)]; omega
  · split at h
    · injection h with h; rw [if_neg (by omega), if_neg (by omega)]; omega
    · split at h
      · injection h with h; rw [if_neg (by omega), if_pos (by omega)]; omega
      · cases h
theorem hex_unhex : ∀ (m : List UInt8) (k : Nat) (t : List UInt8), unhex m k = .ok t → hex t = fold m
  | [], _, t, h => by simp only [unhex] at h; injection h with h; subst h; rfl
  | [a], k, t, h => by
    cases ha : wo a with
    | none => rw [unhex_bad a [] k ha] at h; cases h
    | some x => rw [unhex_odd a k x ha] at h; cases h
  | a :: b :: r, k, t, h => by
    cases ha : wo a with
    | none => rw [unhex_bad a _ k ha] at h; cases h
    | some x =>
      cases hb : wo b with
      | none => rw [unhex_bad2 a b r k x ha hb] at h; cases h
      | some y =>
        rw [unhex_pair a b r k x y ha hb] at h
        cases hr : unhex r (k + 2) with
        | error p => rw [hr] at h; cases h
        | ok q =>
          rw [hr] at h
          simp only [pre] at h
          injection h with h; subst h
          have ih := hex_unhex r (k + 2) q hr
          have hx := wo_lt a x ha
          have hy := wo_lt b y hb
          have e : (UInt8.ofNat (16 * x + y)).toNat = 16 * x + y := by rw [UInt8.toNat_ofNat']; omega
          have e1 : (16 * x + y) / 16 = x := by omega
          have e2 : (16 * x + y) % 16 = y := by omega
          simp only [List.cons_append, List.nil_append]
          rw [hex_cons, e, ih, e1, e2, dg_wo a x ha, dg_wo b y hb]; rfl
/-- The place: digits ahead of it, none at it; at the end of an odd text. -/
theorem unhex_err : ∀ (m : List UInt8) (k p : Nat), unhex m k = .error p → k ≤ p ∧ p ≤ k + m.length ∧ (∀ i, k + i < p → wo (m.getD i 0) ≠ none) ∧ (p = k + m.length → m.length % 2 = 1) ∧ (p < k + m.length → wo (m.getD (p - k) 0) = none)
  | [], _, p, h => by simp only [unhex] at h; cases h
  | [a], k, p, h => by
    cases ha : wo a with
    | none =>
      rw [unhex_bad a [] k ha] at h; injection h with h; subst h
      exact ⟨Nat.le_refl _, by simp, fun i hi => by omega, fun e => by simp at e, fun _ => by simpa using ha⟩
    | some x =>
      rw [unhex_odd a k x ha] at h; injection h with h; subst h
      refine ⟨by omega, by simp, fun i hi => ?_, fun _ => rfl, fun e => by simp at e⟩
      obtain rfl : i = 0 := by omega
      simp [ha]
  | a :: b :: r, k, p, h => by
    cases ha : wo a with
    | none =>
      rw [unhex_bad a _ k ha] at h; injection h with h; subst h
      exact ⟨Nat.le_refl _, by simp, fun i hi => by omega, fun e => by simp at e, fun _ => by simpa using ha⟩
    | some x =>
      cases hb : wo b with
      | none =>
        rw [unhex_bad2 a b r k x ha hb] at h; injection h with h; subst h
        refine ⟨by omega, by simp, fun i hi => ?_, fun e => by simp at e, fun _ => by simpa using hb⟩
        obtain rfl : i = 0 := by omega
        simp [ha]
      | some y =>
        rw [unhex_pair a b r k x y ha hb] at h
        cases hr : unhex r (k + 2) with
        | ok q => rw [hr] at h; cases h
        | error q =>
          rw [hr] at h
          simp only [pre] at h
          injection h with h; subst h
          obtain ⟨h1, h2, h3, h4, h5⟩ := unhex_err r (k + 2) q hr
          refine ⟨by omega, by simp; omega, fun i hi => ?_, fun e => ?_, fun e => ?_⟩
          · match i, hi with
            | 0, _ => simp [ha]
            | 1, _ => simp [hb]
            | i + 2, hi => have := h3 i (by omega); simpa using this
          · have := h4 (by simp at e; omega); simp; omega
          · have := h5 (by simp at e; omega)
            have e2 : q - k = q - (k + 2) + 2 := by omega
            rw [e2]; simpa using this
/-- A digit more. -/
theorem unhex_more : ∀ (m : List UInt8) (k : Nat) (t : List UInt8) (c : UInt8), unhex m k = .ok t → (wo c).isSome = true → unhex (m ++ [c]) k = .error (k + m.length + 1)
  | [], k, t, c, _, hc => by
    obtain ⟨x, hx⟩ := Option.isSome_iff_exists.1 hc
    simp [unhex_odd c k x hx]
  | [a], k, t, c, h, hc => by
    cases ha : wo a with
    | none => rw [unhex_bad a [] k ha] at h; cases h
    | some x => rw [unhex_odd a k x ha] at h; cases h
  | a :: b :: r, k, t, c, h, hc => by
    cases ha : wo a with
    | none => rw [unhex_bad a _ k ha] at h; cases h
    | some x =>
      cases hb : wo b with
      | none => rw [unhex_bad2 a b r k x ha hb] at h; cases h
      | some y =>
        rw [unhex_pair a b r k x y ha hb] at h
        cases hr : unhex r (k + 2) with
        | error p => rw [hr] at h; cases h
        | ok q =>
          simp only [List.cons_append]
          rw [unhex_pair a b _ k x y ha hb, unhex_more r (k + 2) q c hr hc]
          simp only [pre, List.length_cons]
          congr 1; omega
end TextMath
end Go.Proofs.YtoomoicjoockjaaGreatDoor

namespace Go.Proofs.YtoomoicjoockjaaGreatDoor
open Go.RowKit
open TextMath (dg hex wo unhex pre fold lo)

/-- The text of the digits. -/
def DIG : ByteArray := ⟨#[48, 49, 50, 51, 52, 53, 54, 55, 56, 57, 97, 98, 99, 100, 101, 102]⟩
theorem DIG_at : ∀ q : Fin 16, DIG.data.toList.getD q.val 0 = dg q.val := by decide
theorem DIG_get (q : Nat) (h : q < 16) (h' : q < DIG.size) : DIG[q] = dg q := by
  rw [← getD_s DIG q h']; exact DIG_at ⟨q, h⟩

/-- The place of a byte in a text; -1: it isn't there. -/
def pos (l : List UInt8) (c : UInt8) : Int := if l.findIdx (· == c) < l.length then (l.findIdx (· == c) : Int) else -1

set_option maxHeartbeats 400000 in
theorem at_any (t : ByteArray) (c : UInt8) (w : World) (hm : t.size ≤ 1048576) :
    Calls Tryz.prog 76 #[.string t, .int .u8 (c.toNat : Int)] w fun e w' => e = .returned (.int .i64 (pos t.data.toList c)) ∧ w = w' := by
  have hL : Hid (t.data.toList.length = t.size) := size_l t
  go_enter Tryz.func76, Tryz.ntmps76
  go_wp2
  go_loop [5] (fun i => ∃ k : Nat, k ≤ t.size ∧ i = .int .i64 k ∧ Hid (∀ j (hj : j < t.data.toList.length), j < k → t.data.toList[j] ≠ c)) (fun i => t.size - (intOf i).toNat)
  case atStart => exact ⟨0, Nat.zero_le _, rfl, fun _ _ h => by omega⟩
  case round =>
    obtain ⟨k, hk, rfl, hn⟩ := hrel
    by_cases hlt : k < t.size
    · have hkl : k < t.data.toList.length := by rw [hL.out]; exact hlt
      by_cases hc : t[k] = c
      · have hb : (((t[k].toNat : Nat) : Int) == (c.toNat : Int)) = true := by rw [hc]; simp
        have hp : Hid (((k : Nat) : Int) = pos t.data.toList c) := by
          have hi : t.data.toList.findIdx (· == c) = k := by
            have hle : t.data.toList.findIdx (· == c) ≤ k := by
              rcases Nat.lt_or_ge k (t.data.toList.findIdx (· == c)) with h | h
              · exfalso; have hf := List.not_of_lt_findIdx h; have hc' : t.data.toList[k] = c := hc; rw [hc'] at hf; simp at hf
              · exact h
            rcases Nat.lt_or_ge (t.data.toList.findIdx (· == c)) k with h | h
            · exfalso
              have hil : t.data.toList.findIdx (· == c) < t.data.toList.length := by omega
              exact hn.out _ hil h (by have := List.findIdx_getElem (w := hil); simpa using this)
            · omega
          unfold Hid pos; rw [hi, if_pos hkl]
        clear hn
        go_wp2
        go_ret
        exact ⟨ret_int hp.out, rfl⟩
      · have hne : t[k].toNat ≠ c.toNat := fun h => hc (UInt8.toNat_inj.1 h)
        have hb : (((t[k].toNat : Nat) : Int) == (c.toNat : Int)) = false := by simp; omega
        have hn' : Hid (∀ j (hj : j < t.data.toList.length), j < k + 1 → t.data.toList[j] ≠ c) := by
          intro j hj hjk
          by_cases e : j = k
          · subst e; exact hc
          · exact hn.out j hj (by omega)
        clear hn hne
        go_wp2
        go_round
        case rel => exact ⟨k + 1, by omega, by go_num, hn'⟩
        case measure => simp [intOf]; omega
    · have hp : Hid ((-1 : Int) = pos t.data.toList c) := by
        unfold Hid pos
        rw [if_neg]
        intro h
        exact hn.out _ h (by rw [hL.out] at h; omega) (by have := List.findIdx_getElem (w := h); simpa using this)
      go_wp2
      go_ret
      exact ⟨ret_int hp.out, rfl⟩
end Go.Proofs.YtoomoicjoockjaaGreatDoor

namespace Go.Proofs.YtoomoicjoockjaaGreatDoor
namespace TextMath

/-- The three bytes that four characters say, whatever they are. -/
def thr (x y z t : UInt8) : List UInt8 := [UInt8.ofNat (wv x * 4 + wv y / 16), UInt8.ofNat (wv y % 16 * 16 + wv z / 4), UInt8.ofNat (wv z % 4 * 64 + wv t)]
theorem wv_lt (c : UInt8) : wv c < 64 := by
  by_cases h : ch c = true
  · exact (ch_wv c h).2.1
  · unfold wv
    have : bo c = none := by
      unfold ch at h
      cases e : bo c with
      | none => rfl
      | some n => rw [e] at h; exact absurd rfl h
    rw [this]
    decide
theorem dec_thr (x y z t : UInt8) : dec [x, y, z, t] = (thr x y z t).take (dec [x, y, z, t]).length := by
  simp only [dec, thr]
  split
  · rfl
  · split <;> rfl
theorem thr_match (x y z t : UInt8) (j : Nat) (h1 : 1 ≤ j) (h3 : j ≤ 3) : grp ((thr x y z t).take j) = [x, y, z, t] ↔ (Gd [x, y, z, t] = true ∧ j = (dec [x, y, z, t]).length) := by
  constructor
  · intro h
    have key : Gd (grp ((thr x y z t).take j)) = true ∧ dec (grp ((thr x y z t).take j)) = (thr x y z t).take j := by
      have : j = 1 ∨ j = 2 ∨ j = 3 := by omega
      rcases this with rfl | rfl | rfl
      · exact grp_good1 _
      · exact grp_good2 _ _
      · exact grp_good3 _ _ _
    rw [h] at key
    refine ⟨key.1, ?_⟩
    rw [key.2, List.length_take]
    simp [thr]
    omega
  · rintro ⟨hg, hj⟩
    rw [hj, ← dec_thr]
    exact (good_grp x y z t hg).1
/-- The number of a group. -/
def gn : List UInt8 → Nat
  | [x] => x.toNat * 65536
  | [x, y] => x.toNat * 65536 + y.toNat * 256
  | [x, y, z] => x.toNat * 65536 + y.toNat * 256 + z.toNat
  | _ => 0
theorem grp_gn1 (x : UInt8) : grp [x] = [al (gn [x] / 262144), al (gn [x] / 4096 % 64), 61, 61] := by
  have h := x.toNat_lt
  simp only [grp, gn]
  have e0 : x.toNat * 65536 / 262144 = x.toNat / 4 := by omega
  have e1 : x.toNat * 65536 / 4096 % 64 = x.toNat % 4 * 16 := by omega
  rw [e0, e1]
theorem grp_gn2 (x y : UInt8) : grp [x, y] = [al (gn [x, y] / 262144), al (gn [x, y] / 4096 % 64), al (gn [x, y] / 64 % 64), 61] := by
  have h := x.toNat_lt
  have h' := y.toNat_lt
  simp only [grp, gn]
  have e0 : (x.toNat * 65536 + y.toNat * 256) / 262144 = x.toNat / 4 := by omega
  have e1 : (x.toNat * 65536 + y.toNat * 256) / 4096 % 64 = x.toNat % 4 * 16 + y.toNat / 16 := by omega
  have e2 : (x.toNat * 65536 + y.toNat * 256) / 64 % 64 = y.toNat % 16 * 4 := by omega
  rw [e0, e1, e2]
theorem grp_gn3 (x y z : UInt8) : grp [x, y, z] = [al (gn [x, y, z] / 262144), al (gn [x, y, z] / 4096 % 64), al (gn [x, y, z] / 64 % 64), al (gn [x, y, z] % 64)] := by
  have h := x.toNat_lt
  have h' := y.toNat_lt
  have h'' := z.toNat_lt
  simp only [grp, gn]
  have e0 : (x.toNat * 65536 + y.toNat * 256 + z.toNat) / 262144 = x.toNat / 4 := by omega
  have e1 : (x.toNat * 65536 + y.toNat * 256 + z.toNat) / 4096 % 64 = x.toNat % 4 * 16 + y.toNat / 16 := by omega
  have e2 : (x.toNat * 65536 + y.toNat * 256 + z.toNat) / 64 % 64 = y.toNat % 16 * 4 + z.toNat / 64 := by omega
  have e3 : (x.toNat * 65536 + y.toNat * 256 + z.toNat) % 64 = z.toNat % 64 := by omega
  rw [e0, e1, e2, e3]
theorem ch_A : ch 65 = true := by decide
theorem front1 (x : UInt8) : Gd ([x] ++ [65, 65, 65]) = Gd [x] := by simp [Gd, ch_A]
theorem front2 (x y : UInt8) : Gd ([x, y] ++ [65, 65]) = Gd [x, y] := by simp [Gd, ch_A]
theorem front3 (x y z : UInt8) : (Gd ([x, y, z] ++ [61]) || Gd ([x, y, z] ++ [65])) = Gd [x, y, z] := by
  have h6 : ((65 : UInt8) == 61) = false := by decide
  simp only [List.cons_append, List.nil_append, Gd, ch_A, ch_pad, h6]
  cases ch x <;> cases ch y <;> cases ch z <;> simp
theorem thr_num (x y z t : UInt8) : ((wv x * 64 + wv y) * 64 + wv z) * 64 + wv t < 16777216 ∧
    (((wv x * 64 + wv y) * 64 + wv z) * 64 + wv t) / 65536 = wv x * 4 + wv y / 16 ∧ (((wv x * 64 + wv y) * 64 + wv z) * 64 + wv t) / 256 % 256 = wv y % 16 * 16 + wv z / 4 ∧ (((wv x * 64 + wv y) * 64 + wv z) * 64 + wv t) % 256 = wv z % 4 * 64 + wv t := by
  have h1 := wv_lt x
  have h2 := wv_lt y
  have h3 := wv_lt z
  have h4 := wv_lt t
  omega
end TextMath
end Go.Proofs.YtoomoicjoockjaaGreatDoor

namespace Go.Proofs.YtoomoicjoockjaaGreatDoor
open Go.RowKit
open TextMath (al grp b64 bo wv ch Gd gF dec unb preB thr gn)
set_option linter.unusedVariables false

/-- The alphabet, as a text. -/
def ALP : ByteArray := ⟨#[65, 66, 67, 68, 69, 70, 71, 72, 73, 74, 75, 76, 77, 78, 79, 80, 81, 82, 83, 84, 85, 86, 87, 88, 89, 90, 97, 98, 99, 100, 101, 102, 103, 104, 105, 106, 107, 108, 109, 110, 111, 112, 113, 114, 115, 116, 117, 118, 119, 120, 121, 122, 48, 49, 50, 51, 52, 53, 54, 55, 56, 57, 43, 47]⟩
theorem ALP_at : ∀ q : Fin 64, ALP.data.toList.getD q.val 0 = al q.val := by decide +kernel
theorem ALP_get (q : Nat) (h : q < 64) (h' : q < ALP.size) : ALP[q] = al q := by
  rw [← getD_s ALP q h']; exact ALP_at ⟨q, h⟩
def gN (l : List UInt8) : Nat → Nat
  | 0 => 0
  | k + 1 => gN l k * 256 + (l.getD k 0).toNat
theorem gN_lt (l : List UInt8) (k : Nat) (h : k ≤ 3) : gN l k < 16777216 ∧ (k ≤ 2 → gN l k < 65536) := by
  have h0 : gN l 0 = 0 := rfl
  have h1 : gN l 1 = gN l 0 * 256 + (l.getD 0 0).toNat := rfl
  have h2 : gN l 2 = gN l 1 * 256 + (l.getD 1 0).toNat := rfl
  have h3 : gN l 3 = gN l 2 * 256 + (l.getD 2 0).toNat := rfl
  have b0 := (l.getD 0 0).toNat_lt
  have b1 := (l.getD 1 0).toNat_lt
  have b2 := (l.getD 2 0).toNat_lt
  have : k = 0 ∨ k = 1 ∨ k = 2 ∨ k = 3 := by omega
  rcases this with rfl | rfl | rfl | rfl <;> omega
theorem getD_out (l : List UInt8) (k : Nat) (h : ¬ k < l.length) : (l.getD k 0).toNat = 0 := by
  rw [List.getD, List.getElem?_eq_none (by omega)]; rfl

set_option maxHeartbeats 1000000 in
theorem group_any (s : ByteArray) (w : World) (h1 : 1 ≤ s.size) (h3 : s.size ≤ 3) :
    Calls Tryz.prog 77 #[.string s] w fun e w' => e = .returned (.string (S (grp s.data.toList))) ∧ Below w.heap.size w w' := by
  have hL : Hid (s.data.toList.length = s.size) := size_l s
  go_enter Tryz.func77, Tryz.ntmps77
  go_wp2_with fail
  go_loopw [3, 4] (fun nv iv wr => ∃ k : Nat, k ≤ 3 ∧ iv = .int .i64 (k : Int) ∧ nv = .int .i64 (gN s.data.toList k : Int) ∧ w = wr) (fun _ iv _ => 3 - (intOf iv).toNat)
  case atStart => exact ⟨0, by omega, rfl, rfl, rfl⟩
  case round =>
    obtain ⟨k, hk, rfl, rfl, rfl⟩ := hrel
    have hb := gN_lt s.data.toList k hk
    by_cases hlt : k < 3
    · have hb2 := hb.2 (by omega)
      have hstep : Hid (gN s.data.toList (k + 1) = gN s.data.toList k * 256 + (s.data.toList.getD k 0).toNat) := rfl
      have k3 : (k : Int) < 3 := by omega
      by_cases hks : k < s.size
      · have hc := getD_s s k hks
        have hc256 : s[k].toNat < 256 := s[k].toNat_lt
        have hstep2 : Hid (gN s.data.toList (k + 1) = gN s.data.toList k * 256 + s[k].toNat) := by unfold Hid; rw [hstep.out, hc]
        clear hb hc hstep
        generalize gN s.data.toList k = n at *
        go_wp2_with fail
        go_roundw
        case rel => exact ⟨k + 1, by omega, by go_num, by rw [hstep2.out]; go_num, by trivial⟩
        case measure => simp [intOf]; omega
      · have hstep2 : Hid (gN s.data.toList (k + 1) = gN s.data.toList k * 256) := by unfold Hid; rw [hstep.out, getD_out _ _ (by rw [hL.out]; exact hks)]; omega
        clear hb hstep
        generalize gN s.data.toList k = n at *
        go_wp2_with fail
        go_roundw
        case rel => exact ⟨k + 1, by omega, by go_num, by rw [hstep2.out]; go_num, by trivial⟩
        case measure => simp [intOf]; omega
    · have hke : k = 3 := by omega
      subst hke
      obtain ⟨n, hn⟩ : ∃ n, gN s.data.toList 3 = n := ⟨_, rfl⟩
      rw [hn]
      rw [hn] at hb
      have hn' : Hid (gN s.data.toList 3 = n) := hn
      have hb' := hb.1
      clear hn hb hlt
      have q1 : (n : Int) / 262144 = ((n / 262144 : Nat) : Int) := by omega
      have q2 : (n : Int) / 4096 % 64 = ((n / 4096 % 64 : Nat) : Int) := by omega
      have q3 : (n : Int) / 64 % 64 = ((n / 64 % 64 : Nat) : Int) := by omega
      have q4 : (n : Int) % 64 = ((n % 64 : Nat) : Int) := by omega
      have b1 : n / 262144 < 64 := by omega
      have b2 : n / 4096 % 64 < 64 := by omega
      have b3 : n / 64 % 64 < 64 := by omega
      have b4 : n % 64 < 64 := by omega
      have g1 : ∀ (h : n / 262144 < ALP.size), (ALP[n / 262144]'h).toNat = (al (n / 262144)).toNat := fun h => by rw [ALP_get _ b1 h]
      have g2 : ∀ (h : n / 4096 % 64 < ALP.size), (ALP[n / 4096 % 64]'h).toNat = (al (n / 4096 % 64)).toNat := fun h => by rw [ALP_get _ b2 h]
      have g3 : ∀ (h : n / 64 % 64 < ALP.size), (ALP[n / 64 % 64]'h).toNat = (al (n / 64 % 64)).toNat := fun h => by rw [ALP_get _ b3 h]
      have g4 : ∀ (h : n % 64 < ALP.size), (ALP[n % 64]'h).toNat = (al (n % 64)).toNat := fun h => by rw [ALP_get _ b4 h]
      unfold ALP at g1 g2 g3 g4
      have hfin : Hid (grp s.data.toList = (if s.size = 1 then [al (n / 262144), al (n / 4096 % 64), 61, 61] else if s.size = 2 then [al (n / 262144), al (n / 4096 % 64), al (n / 64 % 64), 61] else [al (n / 262144), al (n / 4096 % 64), al (n / 64 % 64), al (n % 64)])) := by
        have e := hL.out
        have en := hn'.out
        unfold Hid
        match hd : s.data.toList, e with
        | [x], e =>
          rw [if_pos (by simpa using e.symm), TextMath.grp_gn1]
          have : gn [x] = n := by rw [← en, hd]; simp [gn, gN]; omega
          rw [this]
        | [x, y], e =>
          rw [if_neg (by simp at e; omega), if_pos (by simpa using e.symm), TextMath.grp_gn2]
          have : gn [x, y] = n := by rw [← en, hd]; simp [gn, gN]; omega
          rw [this]
        | [x, y, z], e =>
          rw [if_neg (by simp at e; omega), if_neg (by simp at e; omega), TextMath.grp_gn3]
          have : gn [x, y, z] = n := by rw [← en, hd]; simp [gn, gN]; omega
          rw [this]
        | [], e => simp at e; omega
        | _ :: _ :: _ :: _ :: _, e => simp at e; omega
      generalize n / 262144 = p1 at *
      generalize n / 4096 % 64 = p2 at *
      generalize n / 64 % 64 = p3 at *
      generalize n % 64 = p4 at *
      have c1 : (p1 : Int) < 64 := by omega
      have c2 : (p2 : Int) < 64 := by omega
      have c3 : (p3 : Int) < 64 := by omega
      have c4 : (p4 : Int) < 64 := by omega
      generalize ha1 : al p1 = A1 at *
      generalize ha2 : al p2 = A2 at *
      generalize ha3 : al p3 = A3 at *
      generalize ha4 : al p4 = A4 at *
      clear ha1 ha2 ha3 ha4
      go_wp2_with fail
      go_region
      obtain ⟨W1, hW1⟩ : ∃ W1, (w.alloc (.cells #[.int .u8 (A1.toNat : Int), .int .u8 (A2.toNat : Int), .int .u8 61, .int .u8 61] 5)).drew = W1 := ⟨_, rfl⟩
      rw [hW1]
      have HB1 : Below w.heap.size w W1 := by rw [← hW1]; exact ((Below.refl _ _).alloc (Nat.le_refl _) _).drew
      have hR : BRow W1 w.heap.size [A1, A2, 61, 61] := by
        intro j hj
        have hj4 : j < 4 := hj
        have : j = 0 ∨ j = 1 ∨ j = 2 ∨ j = 3 := by omega
        rw [← hW1]
        rcases this with rfl | rfl | rfl | rfl <;> exact ⟨by simp [go_sem], by simp [go_sem]⟩
      clear hW1
      have HB1' : Hid (Below w.heap.size w W1) := HB1
      have hR' : Hid (BRow W1 w.heap.size [A1, A2, 61, 61]) := hR
      have cc2 := hR 2 (by simp)
      have cc3 := hR 3 (by simp)
      simp only [List.getElem_cons_succ, List.getElem_cons_zero] at cc2 cc3
      have f2 := cc2.2
      have f3 := cc3.2
      have d2 := cc2.1
      have d3 := cc3.1
      clear cc2 cc3 hR HB1 q1 q2 g1 g2 c1 c2 b1 b2
      have hs : s.size = 1 ∨ s.size = 2 ∨ s.size = 3 := by omega
      rcases hs with hs | hs | hs
      · have hcv := conv_back (P := Tryz.prog) W1 51 9 5 w.heap.size 4 4 [A1, A2, 61, 61] Tryz.underlying51 Tryz.underlying5 Tryz.underlying9 rfl hR'.out
        have hf : Hid (grp s.data.toList = [A1, A2, 61, 61]) := by have := hfin.out; rw [if_pos hs] at this; exact this
        have e1 : ¬ (s.size : Int) > 1 := by omega
        have e2 : ¬ (s.size : Int) > 2 := by omega
        clear hs hfin f2 f3 d2 d3
        go_wp2_with fail
        go_ret
        exact ⟨by rw [hf.out]; rfl, HB1'.out⟩
      · have hR2 : BRow (W1.setCell ⟨w.heap.size, 2, none⟩ (.int .u8 (A3.toNat : Int))) w.heap.size [A1, A2, A3, 61] := hR'.out.set 2 (by simp) A3
        have hcv := conv_back (P := Tryz.prog) _ 51 9 5 w.heap.size 4 4 [A1, A2, A3, 61] Tryz.underlying51 Tryz.underlying5 Tryz.underlying9 rfl hR2
        have hf : Hid (grp s.data.toList = [A1, A2, A3, 61]) := by have := hfin.out; rw [if_neg (by omega), if_pos hs] at this; exact this
        have e1 : (s.size : Int) > 1 := by omega
        have e2 : ¬ (s.size : Int) > 2 := by omega
        clear hs hfin hR2
        go_wp2_with fail
        go_ret
        exact ⟨by rw [hf.out]; rfl, HB1'.out.setCell (Nat.le_refl _) _⟩
      · have hR2 : BRow (W1.setCell ⟨w.heap.size, 2, none⟩ (.int .u8 (A3.toNat : Int))) w.heap.size [A1, A2, A3, 61] := hR'.out.set 2 (by simp) A3
        have hR3 : BRow ((W1.setCell ⟨w.heap.size, 2, none⟩ (.int .u8 (A3.toNat : Int))).setCell ⟨w.heap.size, 3, none⟩ (.int .u8 (A4.toNat : Int))) w.heap.size [A1, A2, A3, A4] := hR2.set 3 (by simp) A4
        have hcv := conv_back (P := Tryz.prog) _ 51 9 5 w.heap.size 4 4 [A1, A2, A3, A4] Tryz.underlying51 Tryz.underlying5 Tryz.underlying9 rfl hR3
        have hf : Hid (grp s.data.toList = [A1, A2, A3, A4]) := by have := hfin.out; rw [if_neg (by omega), if_neg (by omega)] at this; exact this
        have e1 : (s.size : Int) > 1 := by omega
        have e2 : (s.size : Int) > 2 := by omega
        have x3 := hR2 3 (by simp)
        simp only [List.getElem_cons_succ, List.getElem_cons_zero] at x3
        have y3 := x3.1
        have z3 := x3.2
        clear hs hfin hR2 hR3 x3
        go_wp2_with fail
        go_ret
        exact ⟨by rw [hf.out]; rfl, by refine Below.setCell (Below.setCell HB1'.out ?_ _) ?_ _ <;> exact Nat.le_refl _⟩
end Go.Proofs.YtoomoicjoockjaaGreatDoor

namespace Go.Proofs.YtoomoicjoockjaaGreatDoor
open Go.RowKit
open TextMath (al grp b64 bo wv ch Gd gF dec unb preB thr gn)
set_option linter.unusedVariables false

/-- A row of bytes of the call's own. -/
def OwnB (W : World) (B : Nat) (v : Value) (l : List UInt8) : Prop := W.ownsRow B 5 1 v l.length (bv l)
theorem ownB_conv {w : World} {B : Nat} {v : Value} {l : List UInt8} (h : OwnB w B v l) : (convert 51 9 v).run Tryz.prog w = .ok (.string (S l)) w :=
  own_back_any w B 51 9 5 v l.length l Tryz.underlying51 Tryz.underlying5 Tryz.underlying9 h
theorem ownB_below {w w' : World} {B : Nat} {v : Value} {l : List UInt8} (h : OwnB w B v l) (hb : Below w.heap.size w w') : OwnB w' B v l := by
  rcases h with ⟨h1, ⟨rfl, h2⟩ | ⟨g, cap, cur, rfl, h3, h4, h5⟩⟩
  · exact ⟨h1, Or.inl ⟨rfl, h2⟩⟩
  · have hg : g < w.heap.size := by
      rcases Nat.lt_or_ge g w.heap.size with h' | h'
      · exact h'
      · rw [Array.getElem?_eq_none h'] at h4; cases h4
    exact ⟨h1, Or.inr ⟨g, cap, cur, rfl, h3, by rw [hb.block g hg]; exact h4, h5⟩⟩
theorem ownB_slice {w : World} {B : Nat} {v : Value} {l : List UInt8} (h : OwnB w B v l) : ∃ a n c, v = .slice a n c := by
  rcases h.2 with ⟨rfl, _⟩ | ⟨g, cap, cur, rfl, _⟩
  · exact ⟨_, _, _, rfl⟩
  · exact ⟨_, _, _, rfl⟩
/-- A text's bytes appended. -/
theorem push_strB (w : World) {ops : Array Oper} {rest : List Oper} {o : Oper} {a : Act} {Q : Exit → Act → World → Prop} (hgd : o.guard = none) (s x : Operand)
    (ho : o.op = .call { callee := .builtin .append, args := #[s, x], argTypes := #[51, 9] }) (B : Nat) (v : Value) (l : List UInt8) (str : ByteArray)
    (hs : a.eval s = v) (hx : a.eval x = .string str) (hown : OwnB w B v l) (hB : B ≤ w.heap.size) (hl : l.length + str.size ≤ 1099511627776)
    (h : ∀ v' w', OwnB w' B v' (l ++ str.data.toList) → Below B w w' → wpList Tryz.prog ops Q rest (a.put o.dst v') w') :
    wpList Tryz.prog ops Q (o :: rest) a w := by
  obtain ⟨i0, hi, hz0, hz1, hz2⟩ := info_parts info_u8
  refine Lib.wpList_append_own_string _ hgd s x 51 9 ho B 5 i0 Tryz.underlying51 Tryz.underlying9 hi hz0 hz1 hz2 v l.length (bv l) hs hown str hx (by unfold maxLen; omega) (by omega) hB ?_
  intro v' w' h1 h2 _
  refine h v' w' ?_ ?_
  · unfold OwnB
    rw [bv_app, List.length_append, size_l]
    exact h1
  · refine (Below.refl _ _).grown h2 hB ?_
    intro k hk
    exact (World.ownsRow.lt (show w.ownsRow B 5 1 v l.length (bv l) from hown) _ hk).1

theorem ext3 (s : ByteArray) (k m : Nat) (hm : m = k + 3 ∨ (m = s.size ∧ s.size < k + 3)) : (s.extract k m).data.toList = (s.data.toList.drop k).take 3 := by
  rcases hm with rfl | ⟨rfl, h⟩
  · rw [Lib.extract_data]; congr 1; omega
  · rw [drop_l, List.take_of_length_le (by rw [List.length_drop, size_l]; omega)]
theorem ext_size (s : ByteArray) (k m : Nat) (h1 : k ≤ m) (h2 : m ≤ s.size) : (s.extract k m).size = m - k := by
  rw [ByteArray.size_extract]
  omega

theorem ALP_pos : ∀ c : Fin 256, pos ALP.data.toList (UInt8.ofNat c.val) = (match bo (UInt8.ofNat c.val) with | some n => (n : Int) | none => -1) := by decide +kernel
theorem ALP_wv (c : UInt8) : pos ALP.data.toList c = if ch c = true then (wv c : Int) else -1 := by
  have h := ALP_pos ⟨c.toNat, c.toNat_lt⟩
  have e : UInt8.ofNat c.toNat = c := by simp
  simp only [e] at h
  rw [h]
  unfold ch wv
  cases bo c <;> rfl
/-- The number that the first k characters say. -/
def bN (l : List UInt8) : Nat → Nat
  | 0 => 0
  | k + 1 => bN l k * 64 + wv (l.getD k 0)
theorem bN_lt (l : List UInt8) (k : Nat) (h : k ≤ 4) : bN l k < 16777216 ∧ (k ≤ 3 → bN l k < 262144) := by
  have h1 : bN l 1 = bN l 0 * 64 + wv (l.getD 0 0) := rfl
  have h2 : bN l 2 = bN l 1 * 64 + wv (l.getD 1 0) := rfl
  have h3 : bN l 3 = bN l 2 * 64 + wv (l.getD 2 0) := rfl
  have h4 : bN l 4 = bN l 3 * 64 + wv (l.getD 3 0) := rfl
  have h0 : bN l 0 = 0 := rfl
  have b0 := TextMath.wv_lt (l.getD 0 0)
  have b1 := TextMath.wv_lt (l.getD 1 0)
  have b2 := TextMath.wv_lt (l.getD 2 0)
  have b3 := TextMath.wv_lt (l.getD 3 0)
  have : k = 0 ∨ k = 1 ∨ k = 2 ∨ k = 3 ∨ k = 4 := by omega
  rcases this with rfl | rfl | rfl | rfl | rfl <;> omega
theorem byteW (n : Int) (m : Nat) (h : n = m) : IntKind.u8.wrap n = ((UInt8.ofNat m).toNat : Int) := by
  subst h
  rw [UInt8.toNat_ofNat']
  simp [IntKind.wrap, IntKind.bits, IntKind.signed]

/-- The bytes of a good group; of another none. -/
def bO (g : List UInt8) : List UInt8 := if Gd g = true then dec g else []
theorem bO_yes {g : List UInt8} (h : Gd g = true) : bO g = dec g := by unfold bO; rw [if_pos h]
theorem bO_no {g : List UInt8} (h : Gd g = false) : bO g = [] := by unfold bO; rw [if_neg (by rw [h]; decide)]
set_option maxHeartbeats 2000000 in
theorem bytesOf_any (g : ByteArray) (x y z t : UInt8) (w : World) (hg : g.data.toList = [x, y, z, t]) :
    Calls Tryz.prog 57 #[.string g] w fun e w' => e = .returned (.tuple #[.string (S (bO [x, y, z, t])), .bool (Gd [x, y, z, t])]) ∧ Below w.heap.size w w' := by
  have hL : Hid (g.data.toList.length = g.size) := size_l g
  have hs4 : g.size = 4 := by rw [← hL.out, hg]; rfl
  have hg' : Hid (g.data.toList = [x, y, z, t]) := hg
  clear hg
  go_enter Tryz.func57, Tryz.ntmps57
  have hs4' : Hid (g.size = 4) := hs4
  clear hs4
  go_wp2_with fail
  go_loopw [4, 5] (fun nv iv wr => ∃ k : Nat, k ≤ 4 ∧ iv = .int .i64 (k : Int) ∧ nv = .int .i64 (bN g.data.toList k : Int) ∧ w = wr) (fun _ iv _ => 4 - (intOf iv).toNat)
  case atStart => exact ⟨0, by omega, rfl, rfl, rfl⟩
  case round =>
    obtain ⟨k, hk, rfl, rfl, rfl⟩ := hrel
    have hb := bN_lt g.data.toList k hk
    by_cases hlt : k < 4
    · have hks : k < g.size := by rw [hs4'.out]; exact hlt
      have hb2 := hb.2 (by omega)
      have hc := getD_s g k hks
      have hstep : Hid (bN g.data.toList (k + 1) = bN g.data.toList k * 64 + wv g[k]) := by unfold Hid; rw [← hc]; rfl
      have hat := at_any ALP g[k] w (by decide)
      rw [ALP_wv] at hat
      unfold ALP at hat
      have k4 : (k : Int) < 4 := by omega
      have k1 : (k : Int) < (g.size : Int) := Int.ofNat_lt.2 hks
      have k0 : (0 : Int) ≤ (k : Int) := Int.natCast_nonneg _
      have hwv := TextMath.wv_lt g[k]
      clear hb hc
      generalize bN g.data.toList k = n at *
      by_cases hch : ch g[k] = true
      · rw [if_pos hch] at hat
        generalize wv g[k] = v at *
        have v0 : ¬ ((v : Int) < 0) := by omega
        clear hch
        go_wp2_with (go_at_call 76; refine hat.mono ?_; rintro e w' ⟨rfl, rfl⟩)
        go_roundw
        case rel => exact ⟨k + 1, by omega, by go_num, by rw [hstep.out]; go_num, by trivial⟩
        case measure => simp [intOf]; omega
      · rw [if_neg hch] at hat
        have hz : wv g[k] = 0 := by
          unfold ch at hch
          unfold wv
          cases e : bo g[k] with
          | none => rfl
          | some n => rw [e] at hch; exact absurd rfl hch
        rw [hz] at hstep
        clear hch hz hwv
        go_wp2_with (go_at_call 76; refine hat.mono ?_; rintro e w' ⟨rfl, rfl⟩)
        go_roundw
        case rel => exact ⟨k + 1, by omega, by go_num, by rw [hstep.out]; go_num, by trivial⟩
        case measure => simp [intOf]; omega
    · have hke : k = 4 := by omega
      have hn : bN g.data.toList k = ((wv x * 64 + wv y) * 64 + wv z) * 64 + wv t := by
        rw [hke, hg'.out]
        simp [bN]
      obtain ⟨n0, n1, n2, n3⟩ := TextMath.thr_num x y z t
      rw [← hn] at n0 n1 n2 n3
      generalize bN g.data.toList k = n at *
      have hk4 : ¬ (k : Int) < 4 := by omega
      clear hn hb hlt hke hk
      have m1 := byteW ((n : Int) / 65536) (wv x * 4 + wv y / 16) (by rw [← n1]; omega)
      have m2 := byteW ((n : Int) / 256 % 256) (wv y % 16 * 16 + wv z / 4) (by rw [← n2]; omega)
      have m3 := byteW ((n : Int) % 256) (wv z % 4 * 64 + wv t) (by rw [← n3]; omega)
      have hT : Hid (thr x y z t = [UInt8.ofNat (wv x * 4 + wv y / 16), UInt8.ofNat (wv y % 16 * 16 + wv z / 4), UInt8.ofNat (wv z % 4 * 64 + wv t)]) := rfl
      generalize UInt8.ofNat (wv x * 4 + wv y / 16) = B0 at *
      generalize UInt8.ofNat (wv y % 16 * 16 + wv z / 4) = B1 at *
      generalize UInt8.ofNat (wv z % 4 * 64 + wv t) = B2 at *
      clear n1 n2 n3
      obtain ⟨W1, hW1⟩ : ∃ W1, w.alloc (.cells #[.int .u8 (B0.toNat : Int), .int .u8 (B1.toNat : Int), .int .u8 (B2.toNat : Int)] 5) = W1 := ⟨_, rfl⟩
      have HB1 : Hid (Below w.heap.size w W1) := by unfold Hid; rw [← hW1]; exact (Below.refl _ _).alloc (Nat.le_refl _) _
      have hR : BRow W1 w.heap.size [B0, B1, B2] := by
        intro j hj
        have hj4 : j < 3 := hj
        have : j = 0 ∨ j = 1 ∨ j = 2 := by omega
        rw [← hW1]
        rcases this with rfl | rfl | rfl <;> exact ⟨by simp [go_sem], by simp [go_sem]⟩
      have hcv := conv_back (P := Tryz.prog) W1 51 9 5 w.heap.size 3 3 [B0, B1, B2] Tryz.underlying51 Tryz.underlying5 Tryz.underlying9 rfl hR
      have hT3 : Hid (S [B0, B1, B2] = S (thr x y z t)) := by unfold Hid; rw [hT.out]
      have hsz : (S [B0, B1, B2]).size = 3 := rfl
      generalize S [B0, B1, B2] = T3 at *
      clear hR hT
      go_wp2_with fail
      have hTl : Hid (T3.data.toList = thr x y z t) := by unfold Hid; rw [hT3.out, S_l]
      have hsz' : Hid (T3.size = 3) := hsz
      have hTe : Hid (∀ j, j ≤ 3 → (T3.extract 0 j).data.toList = (thr x y z t).take j ∧ (T3.extract 0 j).size = j) := by
        intro j hj
        refine ⟨by rw [take_l, hTl.out], ?_⟩
        rw [ByteArray.size_extract, hsz'.out]
        omega
      have n3' : T3.size = ((3 : Nat)) := hsz
      clear m1 m2 m3 hcv hW1 n0 hT3 hsz n3'
      go_loopw [2, 3, 8] (fun rv kv jv wr => ∃ j : Nat, 1 ≤ j ∧ j ≤ 4 ∧ jv = .int .i64 (j : Int) ∧ rv = .string ⟨#[]⟩ ∧ kv = .bool false ∧ Hid (Below w.heap.size w wr) ∧ Hid (∀ i, 1 ≤ i → i < j → ¬ grp ((thr x y z t).take i) = [x, y, z, t])) (fun _ _ jv _ => 4 - (intOf jv).toNat)
      case atStart => exact ⟨1, Nat.le_refl _, by omega, rfl, rfl, rfl, HB1, fun i h1 h2 => by omega⟩
      case round =>
        obtain ⟨j, j1, j4, rfl, rfl, rfl, hB, hno⟩ := hrel
        by_cases hj : j ≤ 3
        · have hc := group_any (T3.extract 0 j) wr (by rw [(hTe.out j hj).2]; exact j1) (by rw [(hTe.out j hj).2]; exact hj)
          rw [(hTe.out j hj).1] at hc
          have e3 : (j : Int) ≤ 3 := by omega
          have e0 : (0 : Int) ≤ (j : Int) := Int.natCast_nonneg _
          have e1 : j ≤ T3.size := by rw [hsz'.out]; exact hj
          have e2 : (j : Int) ≤ (T3.size : Int) := Int.ofNat_le.2 e1
          by_cases hm : grp ((thr x y z t).take j) = [x, y, z, t]
          · have hgd := (TextMath.thr_match x y z t j j1 hj).1 hm
            have hval : Hid (T3.extract 0 j = S (dec [x, y, z, t]) ∧ Gd [x, y, z, t] = true) := by
              refine ⟨S_eq _ _ ?_, hgd.1⟩
              rw [(hTe.out j hj).1, TextMath.dec_thr, ← hgd.2]
            rw [hm, ← hg'.out, S_of] at hc
            clear hgd hm hno
            go_wp2_with (go_at_call 77; refine hc.mono ?_; rintro e w2 ⟨rfl, hb2⟩)
            go_ret2
            refine ⟨?_, hB.out.trans (hb2.mono hB.out.size)⟩
            rw [bO_yes hval.out.2, hval.out.2, ← hval.out.1]
            rfl
          · have hne : ((S (grp ((thr x y z t).take j))).toList == g.toList) = false := by
              rw [Lib.toList_data, S_l, Lib.toList_data, hg'.out]
              simp [hm]
            have hno' : Hid (∀ i, 1 ≤ i → i < j + 1 → ¬ grp ((thr x y z t).take i) = [x, y, z, t]) := by
              intro i h1 h2
              by_cases e : i = j
              · subst e; exact hm
              · exact hno.out i h1 (by omega)
            clear hm hno
            generalize S (grp ((thr x y z t).take j)) = G at *
            go_wp2_with (go_at_call 77; refine hc.mono ?_; rintro e w2 ⟨rfl, hb2⟩)
            go_roundw
            case rel => exact ⟨j + 1, by omega, by omega, by go_num, rfl, rfl, hB.out.trans (hb2.mono hB.out.size), hno'⟩
            case measure => simp [intOf]; omega
        · have hbad : Hid (Gd [x, y, z, t] = false) := by
            have hj4 : j = 4 := by omega
            subst hj4
            unfold Hid
            cases hGd : Gd [x, y, z, t] with
            | false => rfl
            | true =>
              exfalso
              have hgg := TextMath.good_grp x y z t hGd
              have h1 : 1 ≤ (dec [x, y, z, t]).length := by
                rcases Nat.eq_zero_or_pos (dec [x, y, z, t]).length with h | h
                · exact absurd (List.eq_nil_of_length_eq_zero h) hgg.2.2.2.1
                · exact h
              exact hno.out _ h1 (by have := hgg.2.2.2.2; omega) ((TextMath.thr_match x y z t _ h1 hgg.2.2.2.2).2 ⟨hGd, rfl⟩)
          have e3 : ¬ (j : Int) ≤ 3 := by omega
          clear hno
          go_wp2_with fail
          go_ret2
          refine ⟨?_, hB.out⟩
          rw [bO_no hbad.out, hbad.out]
          rfl
end Go.Proofs.YtoomoicjoockjaaGreatDoor
