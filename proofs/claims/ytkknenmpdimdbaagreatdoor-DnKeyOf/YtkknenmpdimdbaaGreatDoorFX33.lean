import Derived.Test.YtkknenmpdimdbaaGreatDoorFX32
import Derived.Test.YtkknenmpdimdbaaGreatDoorFX14
namespace Go.Proofs.YtkknenmpdimdbaaGreatDoor
namespace Pa
open Go.RowKit
open TextMath (fold lo normal check wo unhex)
open Ke (tyOk tyC utf PR)
set_option linter.unusedVariables false
set_option linter.unusedSimpArgs false
set_option maxRecDepth 100000
def endp : List UInt8 → Nat
 | [] => 0
 | [c] => if c = 44 ∨ c = 43 then 0 else 1
 | c :: d :: r => if c = 92 then 2 + endp r else if c = 44 ∨ c = 43 then 0 else 1 + endp (d :: r)
theorem endp_sep {c : UInt8} (r : List UInt8) (h : c = 44 ∨ c = 43) : endp (c :: r) = 0 := by
 cases r with
 | nil => unfold endp; rw [if_pos h]
 | cons d r =>
  unfold endp
  rw [if_neg (by rcases h with rfl | rfl <;> decide), if_pos h]
theorem endp_plain {c : UInt8} (r : List UInt8) (h : ¬ (c = 44 ∨ c = 43)) (h2 : c ≠ 92) : endp (c :: r) = 1 + endp r := by
 cases r with
 | nil => unfold endp; rw [if_neg h]
 | cons d r =>
  conv => lhs; unfold endp
  rw [if_neg h2, if_neg h]
theorem endp_esc (d : UInt8) (r : List UInt8) : endp (92 :: d :: r) = 2 + endp r := by
 conv => lhs; unfold endp
 rw [if_pos rfl]
theorem endp_lame : endp [92] = 1 := by decide
theorem endp_le : ∀ (n : Nat) (l : List UInt8), l.length ≤ n → endp l ≤ l.length
 | _, [], _ => Nat.zero_le _
 | 0, _ :: _, h => by simp at h
 | n + 1, [c], _ => by unfold endp; split <;> simp
 | n + 1, c :: d :: r, h => by
  have h1 := endp_le n r (by simp at h; omega)
  have h2 := endp_le n (d :: r) (by simp at h ⊢; omega)
  unfold endp
  simp only [List.length_cons] at h2 ⊢
  split
  ·omega
  ·split <;> omega
theorem endp_en : ∀ (n : Nat) (l : List UInt8), l.length ≤ n → En (l.drop (endp l))
 | _, [], _ => Or.inl rfl
 | 0, _ :: _, h => by simp at h
 | n + 1, [c], _ => by
  by_cases h : c = 44 ∨ c = 43
  ·rw [endp_sep [] h]; exact Or.inr ⟨c, [], rfl, h⟩
  ·have : endp [c] = 1 := by unfold endp; rw [if_neg h]
   rw [this]; exact Or.inl rfl
 | n + 1, c :: d :: r, h => by
  by_cases h2 : c = 92
  ·subst h2
   rw [endp_esc]
   have := endp_en n r (by simp at h; omega)
   rw [Nat.add_comm]
   simpa using this
  ·by_cases h3 : c = 44 ∨ c = 43
   ·rw [endp_sep _ h3]; exact Or.inr ⟨c, _, rfl, h3⟩
   ·rw [endp_plain _ h3 h2]
    have := endp_en n (d :: r) (by simp at h ⊢; omega)
    rw [Nat.add_comm]
    simpa using this
theorem endp_zero (l : List UInt8) : endp l = 0 ↔ kO l = 0 := by
 cases l with
 | nil => exact ⟨fun _ => rfl, fun _ => rfl⟩
 | cons c r =>
  by_cases h : c = 44 ∨ c = 43
  ·rw [endp_sep r h]
   unfold kO
   simp [h]
  ·have h1 : endp (c :: r) ≠ 0 := by
    by_cases h2 : c = 92
    ·subst h2
     cases r with
     | nil => rw [endp_lame]; decide
     | cons d r => rw [endp_esc]; omega
    ·rw [endp_plain r h h2]; omega
   refine ⟨fun e => absurd e h1, fun e => ?_⟩
   exfalso
   unfold kO at e
   dsimp only at e
   rw [if_neg h] at e
   split at e
   ·unfold kB at e
    repeat' split at e
    all_goals cases e
   ·repeat' split at e
    all_goals cases e
def Al (s : ByteArray) (p t : Nat) : Prop := p ≤ s.size ∧ t = p + endp (lf s p)
variable {s : ByteArray} {p q t : Nat}
theorem Al.le (h : Al s p t) : p ≤ t ∧ t ≤ s.size := by
 have := endp_le _ (lf s p) (Nat.le_refl _)
 rw [lf_len] at this
 have := h.1
 have := h.2
 omega
theorem Al.en (h : Al s p t) : En (lf s t) := by
 rw [h.2, ← lf_drop]
 exact endp_en _ _ (Nat.le_refl _)
theorem en_ne {r : List UInt8} (h : En r) : r.head? ≠ some 32 := by
 rcases h with rfl | ⟨c, t, rfl, h2⟩
 ·simp
 ·rcases h2 with rfl | rfl <;> simp
theorem Al.done (h : Al s p t) : p = t ↔ kO (lf s p) = 0 := by
 rw [← endp_zero]
 have := h.2
 omega
theorem Al.lt (h : Al s p t) (hp : p < t) : ∃ hs : p < s.size, ¬ (s[p] = 44 ∨ s[p] = 43) := by
 have h1 := h.le
 refine ⟨by omega, fun q => ?_⟩
 have h2 := h.2
 rw [lf_cons (by omega : p < s.size), endp_sep _ q] at h2
 omega
theorem Al.step (h : Al s p t) (hp : p < s.size) (hc : ¬ (s[p] = 44 ∨ s[p] = 43)) (h2 : s[p] ≠ 92) : Al s (p + 1) t := by
 refine ⟨hp, ?_⟩
 have h3 := h.2
 rw [lf_cons hp, endp_plain _ hc h2] at h3
 omega
theorem Al.esc (h : Al s p t) (hp : p + 1 < s.size) (h2 : s[p] = 92) : Al s (p + 2) t ∧ p + 2 ≤ t := by
 have h3 := h.2
 rw [lf_cons (by omega : p < s.size), lf_cons hp, h2, endp_esc, show p + 1 + 1 = p + 2 from rfl] at h3
 exact ⟨⟨by omega, by omega⟩, by omega⟩
theorem Al.sep (h : Al s p t) (hp : p < s.size) (hc : s[p] = 44 ∨ s[p] = 43) : p = t := by
 have h3 := h.2
 rw [lf_cons hp, endp_sep _ hc] at h3
 omega
def RsQ (s : ByteArray) (p t : Nat) (w : World) (e : Ending) (w' : World) : Prop := ∃ q : Nat, e = .returned (.int .i64 (q : Int)) ∧ lf s q = sp (lf s p) ∧ p ≤ q ∧ Al s q t ∧ w' = w
set_option maxHeartbeats 2000000 in
theorem rskip_any (s : ByteArray) (p t : Nat) (w : World) (h : Al s p t) (hs : s.size ≤ 4096) :
  Calls Tryz.prog 36 #[.string s, .int .i64 (p : Int), .int .i64 (t : Int)] w fun e w' => RsQ s p t w e w' := by
 have hl := h.le
 have h' : Hid (Al s p t ∧ p ≤ t ∧ t ≤ s.size ∧ s.size ≤ 4096) := ⟨h, hl.1, hl.2, hs⟩
 have t0 : (0 : Int) ≤ (t : Int) := Int.natCast_nonneg _
 have tb : (t : Int) ≤ 4096 := by omega
 clear h hl hs
 go_enter Tryz.func36, Tryz.ntmps36
 go_wp2_with fail
 go_loop [1] (fun iv => ∃ k : Nat, iv = .int .i64 (k : Int) ∧ Hid (p ≤ k ∧ k ≤ t ∧ sp (lf s k) = sp (lf s p) ∧ Al s k t)) (fun iv => t - (intOf iv).toNat)
 case atStart => exact ⟨p, rfl, Nat.le_refl _, h'.out.2.1, rfl, h'.out.1⟩
 case round =>
  obtain ⟨k, rfl, hQ⟩ := hrel
  have k0 : (0 : Int) ≤ (k : Int) := Int.natCast_nonneg _
  by_cases hlt : k < t
  ·have k1 : (k : Int) < (t : Int) := Int.ofNat_lt.2 hlt
   have hks : k < s.size := by have := h'.out.2.2.1; omega
   have k2 : (k : Int) < (s.size : Int) := Int.ofNat_lt.2 hks
   obtain ⟨x, hx⟩ : ∃ x, s[k] = x := ⟨_, rfl⟩
   have hcs : Hid (lf s k = x :: lf s (k + 1)) := by unfold Hid; rw [lf_cons hks, hx]
   have hstep : Hid (x = 32 → Al s (k + 1) t) := fun e => by
    rw [← hx] at e
    exact hQ.out.2.2.2.step hks (by rw [e]; decide) (by rw [e]; decide)
   have hlt' : Hid (k < t) := hlt
   by_cases hc : x = 32
   ·have g : ((x.toNat : Int) == 32) = true := by rw [hc]; rfl
    have hfin : Hid (p ≤ k + 1 ∧ k + 1 ≤ t ∧ sp (lf s (k + 1)) = sp (lf s p) ∧ Al s (k + 1) t) := by
     refine ⟨by have := hQ.out.1; omega, hlt'.out, ?_, hstep.out hc⟩
     rw [← hQ.out.2.2.1, hcs.out]
     unfold sp
     rw [List.dropWhile_cons, hc]
     rfl
    clear hQ hc hcs hstep
    go_wp2_with fail
    go_round
    case rel => exact ⟨k + 1, by go_num, hfin⟩
    case measure => have := hlt'.out; simp [intOf]; omega
   ·have g : ((x.toNat : Int) == 32) = false := by rw [beq_eq_false_iff_ne]; exact fun h => hc (UInt8.toNat_inj.1 (by show x.toNat = 32; omega))
    have hfin : Hid (RsQ s p t w (.returned (.int .i64 (k : Int))) w) := ⟨k, rfl, by rw [← hQ.out.2.2.1, sp_id (by rw [hcs.out]; simpa using hc)], hQ.out.1, hQ.out.2.2.2, rfl⟩
    clear hQ hc hcs hstep hlt'
    go_wp2_with fail
    go_ret
    exact hfin.out
  ·have k1 : ¬ (k : Int) < (t : Int) := by omega
   have hkt : k = t := by have := hQ.out.2.1; omega
   have hfin : Hid (RsQ s p t w (.returned (.int .i64 (k : Int))) w) := ⟨k, rfl, by rw [← hQ.out.2.2.1, sp_id (by rw [hkt]; exact en_ne hQ.out.2.2.2.en)], hQ.out.1, hQ.out.2.2.2, rfl⟩
   clear hQ hlt hkt
   go_wp2_with fail
   go_ret
   exact hfin.out
end Pa
end Go.Proofs.YtkknenmpdimdbaaGreatDoor

namespace Go.Proofs.YtkknenmpdimdbaaGreatDoor
namespace Pa
open Go.RowKit
open TextMath (fold lo normal check wo unhex)
set_option linter.unusedVariables false
set_option linter.unusedSimpArgs false
set_option maxRecDepth 100000
def hxI (c : UInt8) : Int := match wo c with
 | some n => (n : Int)
 | none => -1
theorem hxI_hd (c : UInt8) : (0 ≤ hxI c ↔ hd c = true) := by
 unfold hxI hd
 cases wo c with
 | none => simp
 | some n => simp
theorem hxI_lt (c : UInt8) : -1 ≤ hxI c ∧ hxI c < 16 := by
 unfold hxI wo
 have := c.toNat_lt
 split
 ·rename_i n h
  split at h
  ·injection h; omega
  ·split at h
   ·injection h; omega
   ·split at h
    ·injection h; omega
    ·cases h
 ·omega
set_option maxHeartbeats 1000000 in
theorem word0 (c : UInt8) (w : World) (h1 : 0 ≤ c.toNat) (h2 : c.toNat ≤ 44) : Calls Tryz.prog 64 #[.int .u8 (c.toNat : Int)] w fun e w' => e = .returned (.bool false) ∧ w' = w := by
 have c0 : (0 : Int) ≤ (c.toNat : Int) := Int.natCast_nonneg _
 have c1 : (c.toNat : Int) ≤ 255 := by have := c.toNat_lt; omega
 have a97 : ¬ (97 : Int) ≤ (c.toNat : Int) := by omega
 have b122 : (c.toNat : Int) ≤ 122 := by omega
 have a65 : ¬ (65 : Int) ≤ (c.toNat : Int) := by omega
 have b90 : (c.toNat : Int) ≤ 90 := by omega
 have a48 : ¬ (48 : Int) ≤ (c.toNat : Int) := by omega
 have b57 : (c.toNat : Int) ≤ 57 := by omega
 have e45 : ((c.toNat : Int) == 45) = false := by rw [beq_eq_false_iff_ne]; omega
 have e46 : ((c.toNat : Int) == 46) = false := by rw [beq_eq_false_iff_ne]; omega
 clear h1 h2
 go_enter Tryz.func64, Tryz.ntmps64
 go_wp2_with fail
 go_ret
 first
  | exact ⟨rfl, rfl⟩
  | exact ⟨ret_int (by omega), rfl⟩
set_option maxHeartbeats 1000000 in
theorem word1 (c : UInt8) (w : World) (h1 : 45 ≤ c.toNat) (h2 : c.toNat ≤ 45) : Calls Tryz.prog 64 #[.int .u8 (c.toNat : Int)] w fun e w' => e = .returned (.bool true) ∧ w' = w := by
 have c0 : (0 : Int) ≤ (c.toNat : Int) := Int.natCast_nonneg _
 have c1 : (c.toNat : Int) ≤ 255 := by have := c.toNat_lt; omega
 have a97 : ¬ (97 : Int) ≤ (c.toNat : Int) := by omega
 have b122 : (c.toNat : Int) ≤ 122 := by omega
 have a65 : ¬ (65 : Int) ≤ (c.toNat : Int) := by omega
 have b90 : (c.toNat : Int) ≤ 90 := by omega
 have a48 : ¬ (48 : Int) ≤ (c.toNat : Int) := by omega
 have b57 : (c.toNat : Int) ≤ 57 := by omega
 have e45 : ((c.toNat : Int) == 45) = true := by rw [beq_iff_eq]; omega
 have e46 : ((c.toNat : Int) == 46) = false := by rw [beq_eq_false_iff_ne]; omega
 clear h1 h2
 go_enter Tryz.func64, Tryz.ntmps64
 go_wp2_with fail
 go_ret
 first
  | exact ⟨rfl, rfl⟩
  | exact ⟨ret_int (by omega), rfl⟩
set_option maxHeartbeats 1000000 in
theorem word2 (c : UInt8) (w : World) (h1 : 46 ≤ c.toNat) (h2 : c.toNat ≤ 46) : Calls Tryz.prog 64 #[.int .u8 (c.toNat : Int)] w fun e w' => e = .returned (.bool true) ∧ w' = w := by
 have c0 : (0 : Int) ≤ (c.toNat : Int) := Int.natCast_nonneg _
 have c1 : (c.toNat : Int) ≤ 255 := by have := c.toNat_lt; omega
 have a97 : ¬ (97 : Int) ≤ (c.toNat : Int) := by omega
 have b122 : (c.toNat : Int) ≤ 122 := by omega
 have a65 : ¬ (65 : Int) ≤ (c.toNat : Int) := by omega
 have b90 : (c.toNat : Int) ≤ 90 := by omega
 have a48 : ¬ (48 : Int) ≤ (c.toNat : Int) := by omega
 have b57 : (c.toNat : Int) ≤ 57 := by omega
 have e45 : ((c.toNat : Int) == 45) = false := by rw [beq_eq_false_iff_ne]; omega
 have e46 : ((c.toNat : Int) == 46) = true := by rw [beq_iff_eq]; omega
 clear h1 h2
 go_enter Tryz.func64, Tryz.ntmps64
 go_wp2_with fail
 go_ret
 first
  | exact ⟨rfl, rfl⟩
  | exact ⟨ret_int (by omega), rfl⟩
set_option maxHeartbeats 1000000 in
theorem word3 (c : UInt8) (w : World) (h1 : 47 ≤ c.toNat) (h2 : c.toNat ≤ 47) : Calls Tryz.prog 64 #[.int .u8 (c.toNat : Int)] w fun e w' => e = .returned (.bool false) ∧ w' = w := by
 have c0 : (0 : Int) ≤ (c.toNat : Int) := Int.natCast_nonneg _
 have c1 : (c.toNat : Int) ≤ 255 := by have := c.toNat_lt; omega
 have a97 : ¬ (97 : Int) ≤ (c.toNat : Int) := by omega
 have b122 : (c.toNat : Int) ≤ 122 := by omega
 have a65 : ¬ (65 : Int) ≤ (c.toNat : Int) := by omega
 have b90 : (c.toNat : Int) ≤ 90 := by omega
 have a48 : ¬ (48 : Int) ≤ (c.toNat : Int) := by omega
 have b57 : (c.toNat : Int) ≤ 57 := by omega
 have e45 : ((c.toNat : Int) == 45) = false := by rw [beq_eq_false_iff_ne]; omega
 have e46 : ((c.toNat : Int) == 46) = false := by rw [beq_eq_false_iff_ne]; omega
 clear h1 h2
 go_enter Tryz.func64, Tryz.ntmps64
 go_wp2_with fail
 go_ret
 first
  | exact ⟨rfl, rfl⟩
  | exact ⟨ret_int (by omega), rfl⟩
set_option maxHeartbeats 1000000 in
theorem word4 (c : UInt8) (w : World) (h1 : 48 ≤ c.toNat) (h2 : c.toNat ≤ 57) : Calls Tryz.prog 64 #[.int .u8 (c.toNat : Int)] w fun e w' => e = .returned (.bool true) ∧ w' = w := by
 have c0 : (0 : Int) ≤ (c.toNat : Int) := Int.natCast_nonneg _
 have c1 : (c.toNat : Int) ≤ 255 := by have := c.toNat_lt; omega
 have a97 : ¬ (97 : Int) ≤ (c.toNat : Int) := by omega
 have b122 : (c.toNat : Int) ≤ 122 := by omega
 have a65 : ¬ (65 : Int) ≤ (c.toNat : Int) := by omega
 have b90 : (c.toNat : Int) ≤ 90 := by omega
 have a48 : (48 : Int) ≤ (c.toNat : Int) := by omega
 have b57 : (c.toNat : Int) ≤ 57 := by omega
 have e45 : ((c.toNat : Int) == 45) = false := by rw [beq_eq_false_iff_ne]; omega
 have e46 : ((c.toNat : Int) == 46) = false := by rw [beq_eq_false_iff_ne]; omega
 clear h1 h2
 go_enter Tryz.func64, Tryz.ntmps64
 go_wp2_with fail
 go_ret
 first
  | exact ⟨rfl, rfl⟩
  | exact ⟨ret_int (by omega), rfl⟩
set_option maxHeartbeats 1000000 in
theorem word5 (c : UInt8) (w : World) (h1 : 58 ≤ c.toNat) (h2 : c.toNat ≤ 64) : Calls Tryz.prog 64 #[.int .u8 (c.toNat : Int)] w fun e w' => e = .returned (.bool false) ∧ w' = w := by
 have c0 : (0 : Int) ≤ (c.toNat : Int) := Int.natCast_nonneg _
 have c1 : (c.toNat : Int) ≤ 255 := by have := c.toNat_lt; omega
 have a97 : ¬ (97 : Int) ≤ (c.toNat : Int) := by omega
 have b122 : (c.toNat : Int) ≤ 122 := by omega
 have a65 : ¬ (65 : Int) ≤ (c.toNat : Int) := by omega
 have b90 : (c.toNat : Int) ≤ 90 := by omega
 have a48 : (48 : Int) ≤ (c.toNat : Int) := by omega
 have b57 : ¬ (c.toNat : Int) ≤ 57 := by omega
 have e45 : ((c.toNat : Int) == 45) = false := by rw [beq_eq_false_iff_ne]; omega
 have e46 : ((c.toNat : Int) == 46) = false := by rw [beq_eq_false_iff_ne]; omega
 clear h1 h2
 go_enter Tryz.func64, Tryz.ntmps64
 go_wp2_with fail
 go_ret
 first
  | exact ⟨rfl, rfl⟩
  | exact ⟨ret_int (by omega), rfl⟩
set_option maxHeartbeats 1000000 in
theorem word6 (c : UInt8) (w : World) (h1 : 65 ≤ c.toNat) (h2 : c.toNat ≤ 90) : Calls Tryz.prog 64 #[.int .u8 (c.toNat : Int)] w fun e w' => e = .returned (.bool true) ∧ w' = w := by
 have c0 : (0 : Int) ≤ (c.toNat : Int) := Int.natCast_nonneg _
 have c1 : (c.toNat : Int) ≤ 255 := by have := c.toNat_lt; omega
 have a97 : ¬ (97 : Int) ≤ (c.toNat : Int) := by omega
 have b122 : (c.toNat : Int) ≤ 122 := by omega
 have a65 : (65 : Int) ≤ (c.toNat : Int) := by omega
 have b90 : (c.toNat : Int) ≤ 90 := by omega
 have a48 : (48 : Int) ≤ (c.toNat : Int) := by omega
 have b57 : ¬ (c.toNat : Int) ≤ 57 := by omega
 have e45 : ((c.toNat : Int) == 45) = false := by rw [beq_eq_false_iff_ne]; omega
 have e46 : ((c.toNat : Int) == 46) = false := by rw [beq_eq_false_iff_ne]; omega
 clear h1 h2
 go_enter Tryz.func64, Tryz.ntmps64
 go_wp2_with fail
 go_ret
 first
  | exact ⟨rfl, rfl⟩
  | exact ⟨ret_int (by omega), rfl⟩
set_option maxHeartbeats 1000000 in
theorem word7 (c : UInt8) (w : World) (h1 : 91 ≤ c.toNat) (h2 : c.toNat ≤ 96) : Calls Tryz.prog 64 #[.int .u8 (c.toNat : Int)] w fun e w' => e = .returned (.bool false) ∧ w' = w := by
 have c0 : (0 : Int) ≤ (c.toNat : Int) := Int.natCast_nonneg _
 have c1 : (c.toNat : Int) ≤ 255 := by have := c.toNat_lt; omega
 have a97 : ¬ (97 : Int) ≤ (c.toNat : Int) := by omega
 have b122 : (c.toNat : Int) ≤ 122 := by omega
 have a65 : (65 : Int) ≤ (c.toNat : Int) := by omega
 have b90 : ¬ (c.toNat : Int) ≤ 90 := by omega
 have a48 : (48 : Int) ≤ (c.toNat : Int) := by omega
 have b57 : ¬ (c.toNat : Int) ≤ 57 := by omega
 have e45 : ((c.toNat : Int) == 45) = false := by rw [beq_eq_false_iff_ne]; omega
 have e46 : ((c.toNat : Int) == 46) = false := by rw [beq_eq_false_iff_ne]; omega
 clear h1 h2
 go_enter Tryz.func64, Tryz.ntmps64
 go_wp2_with fail
 go_ret
 first
  | exact ⟨rfl, rfl⟩
  | exact ⟨ret_int (by omega), rfl⟩
set_option maxHeartbeats 1000000 in
theorem word8 (c : UInt8) (w : World) (h1 : 97 ≤ c.toNat) (h2 : c.toNat ≤ 122) : Calls Tryz.prog 64 #[.int .u8 (c.toNat : Int)] w fun e w' => e = .returned (.bool true) ∧ w' = w := by
 have c0 : (0 : Int) ≤ (c.toNat : Int) := Int.natCast_nonneg _
 have c1 : (c.toNat : Int) ≤ 255 := by have := c.toNat_lt; omega
 have a97 : (97 : Int) ≤ (c.toNat : Int) := by omega
 have b122 : (c.toNat : Int) ≤ 122 := by omega
 have a65 : (65 : Int) ≤ (c.toNat : Int) := by omega
 have b90 : ¬ (c.toNat : Int) ≤ 90 := by omega
 have a48 : (48 : Int) ≤ (c.toNat : Int) := by omega
 have b57 : ¬ (c.toNat : Int) ≤ 57 := by omega
 have e45 : ((c.toNat : Int) == 45) = false := by rw [beq_eq_false_iff_ne]; omega
 have e46 : ((c.toNat : Int) == 46) = false := by rw [beq_eq_false_iff_ne]; omega
 clear h1 h2
 go_enter Tryz.func64, Tryz.ntmps64
 go_wp2_with fail
 go_ret
 first
  | exact ⟨rfl, rfl⟩
  | exact ⟨ret_int (by omega), rfl⟩
set_option maxHeartbeats 1000000 in
theorem word9 (c : UInt8) (w : World) (h1 : 123 ≤ c.toNat) (h2 : c.toNat ≤ 255) : Calls Tryz.prog 64 #[.int .u8 (c.toNat : Int)] w fun e w' => e = .returned (.bool false) ∧ w' = w := by
 have c0 : (0 : Int) ≤ (c.toNat : Int) := Int.natCast_nonneg _
 have c1 : (c.toNat : Int) ≤ 255 := by have := c.toNat_lt; omega
 have a97 : (97 : Int) ≤ (c.toNat : Int) := by omega
 have b122 : ¬ (c.toNat : Int) ≤ 122 := by omega
 have a65 : (65 : Int) ≤ (c.toNat : Int) := by omega
 have b90 : ¬ (c.toNat : Int) ≤ 90 := by omega
 have a48 : (48 : Int) ≤ (c.toNat : Int) := by omega
 have b57 : ¬ (c.toNat : Int) ≤ 57 := by omega
 have e45 : ((c.toNat : Int) == 45) = false := by rw [beq_eq_false_iff_ne]; omega
 have e46 : ((c.toNat : Int) == 46) = false := by rw [beq_eq_false_iff_ne]; omega
 clear h1 h2
 go_enter Tryz.func64, Tryz.ntmps64
 go_wp2_with fail
 go_ret
 first
  | exact ⟨rfl, rfl⟩
  | exact ⟨ret_int (by omega), rfl⟩
theorem word_any (c : UInt8) (w : World) : Calls Tryz.prog 64 #[.int .u8 (c.toNat : Int)] w fun e w' => e = .returned (.bool (tb c)) ∧ w' = w := by
 have hc := c.toNat_lt
 by_cases k0 : 0 ≤ c.toNat ∧ c.toNat ≤ 44
 ·have hr : tb c = false := by rw [tb_eq]; simp <;> omega
  rw [hr]
  exact word0 c w k0.1 k0.2
 by_cases k1 : 45 ≤ c.toNat ∧ c.toNat ≤ 45
 ·have hr : tb c = true := by rw [tb_eq]; simp <;> omega
  rw [hr]
  exact word1 c w k1.1 k1.2
 by_cases k2 : 46 ≤ c.toNat ∧ c.toNat ≤ 46
 ·have hr : tb c = true := by rw [tb_eq]; simp <;> omega
  rw [hr]
  exact word2 c w k2.1 k2.2
 by_cases k3 : 47 ≤ c.toNat ∧ c.toNat ≤ 47
 ·have hr : tb c = false := by rw [tb_eq]; simp <;> omega
  rw [hr]
  exact word3 c w k3.1 k3.2
 by_cases k4 : 48 ≤ c.toNat ∧ c.toNat ≤ 57
 ·have hr : tb c = true := by rw [tb_eq]; simp <;> omega
  rw [hr]
  exact word4 c w k4.1 k4.2
 by_cases k5 : 58 ≤ c.toNat ∧ c.toNat ≤ 64
 ·have hr : tb c = false := by rw [tb_eq]; simp <;> omega
  rw [hr]
  exact word5 c w k5.1 k5.2
 by_cases k6 : 65 ≤ c.toNat ∧ c.toNat ≤ 90
 ·have hr : tb c = true := by rw [tb_eq]; simp <;> omega
  rw [hr]
  exact word6 c w k6.1 k6.2
 by_cases k7 : 91 ≤ c.toNat ∧ c.toNat ≤ 96
 ·have hr : tb c = false := by rw [tb_eq]; simp <;> omega
  rw [hr]
  exact word7 c w k7.1 k7.2
 by_cases k8 : 97 ≤ c.toNat ∧ c.toNat ≤ 122
 ·have hr : tb c = true := by rw [tb_eq]; simp <;> omega
  rw [hr]
  exact word8 c w k8.1 k8.2
 by_cases k9 : 123 ≤ c.toNat ∧ c.toNat ≤ 255
 ·have hr : tb c = false := by rw [tb_eq]; simp <;> omega
  rw [hr]
  exact word9 c w k9.1 k9.2
 omega
set_option maxHeartbeats 1000000 in
theorem hexr0 (c : UInt8) (w : World) (h1 : 0 ≤ c.toNat) (h2 : c.toNat ≤ 47) : Calls Tryz.prog 95 #[.int .u8 (c.toNat : Int)] w fun e w' => e = .returned (.int .i64 (-1)) ∧ w' = w := by
 have c0 : (0 : Int) ≤ (c.toNat : Int) := Int.natCast_nonneg _
 have c1 : (c.toNat : Int) ≤ 255 := by have := c.toNat_lt; omega
 have a48 : ¬ (48 : Int) ≤ (c.toNat : Int) := by omega
 have b57 : (c.toNat : Int) ≤ 57 := by omega
 have a97 : ¬ (97 : Int) ≤ (c.toNat : Int) := by omega
 have b102 : (c.toNat : Int) ≤ 102 := by omega
 have a65 : ¬ (65 : Int) ≤ (c.toNat : Int) := by omega
 have b70 : (c.toNat : Int) ≤ 70 := by omega
 clear h1 h2
 go_enter Tryz.func95, Tryz.ntmps95
 go_wp2_with fail
 go_ret
 first
  | exact ⟨rfl, rfl⟩
  | exact ⟨ret_int (by omega), rfl⟩
set_option maxHeartbeats 1000000 in
theorem hexr1 (c : UInt8) (w : World) (h1 : 48 ≤ c.toNat) (h2 : c.toNat ≤ 57) : Calls Tryz.prog 95 #[.int .u8 (c.toNat : Int)] w fun e w' => e = .returned (.int .i64 ((c.toNat : Int) - 48)) ∧ w' = w := by
 have c0 : (0 : Int) ≤ (c.toNat : Int) := Int.natCast_nonneg _
 have c1 : (c.toNat : Int) ≤ 255 := by have := c.toNat_lt; omega
 have a48 : (48 : Int) ≤ (c.toNat : Int) := by omega
 have b57 : (c.toNat : Int) ≤ 57 := by omega
 have a97 : ¬ (97 : Int) ≤ (c.toNat : Int) := by omega
 have b102 : (c.toNat : Int) ≤ 102 := by omega
 have a65 : ¬ (65 : Int) ≤ (c.toNat : Int) := by omega
 have b70 : (c.toNat : Int) ≤ 70 := by omega
 clear h1 h2
 go_enter Tryz.func95, Tryz.ntmps95
 go_wp2_with fail
 go_ret
 first
  | exact ⟨rfl, rfl⟩
  | exact ⟨ret_int (by omega), rfl⟩
set_option maxHeartbeats 1000000 in
theorem hexr2 (c : UInt8) (w : World) (h1 : 58 ≤ c.toNat) (h2 : c.toNat ≤ 64) : Calls Tryz.prog 95 #[.int .u8 (c.toNat : Int)] w fun e w' => e = .returned (.int .i64 (-1)) ∧ w' = w := by
 have c0 : (0 : Int) ≤ (c.toNat : Int) := Int.natCast_nonneg _
 have c1 : (c.toNat : Int) ≤ 255 := by have := c.toNat_lt; omega
 have a48 : (48 : Int) ≤ (c.toNat : Int) := by omega
 have b57 : ¬ (c.toNat : Int) ≤ 57 := by omega
 have a97 : ¬ (97 : Int) ≤ (c.toNat : Int) := by omega
 have b102 : (c.toNat : Int) ≤ 102 := by omega
 have a65 : ¬ (65 : Int) ≤ (c.toNat : Int) := by omega
 have b70 : (c.toNat : Int) ≤ 70 := by omega
 clear h1 h2
 go_enter Tryz.func95, Tryz.ntmps95
 go_wp2_with fail
 go_ret
 first
  | exact ⟨rfl, rfl⟩
  | exact ⟨ret_int (by omega), rfl⟩
set_option maxHeartbeats 1000000 in
theorem hexr3 (c : UInt8) (w : World) (h1 : 65 ≤ c.toNat) (h2 : c.toNat ≤ 70) : Calls Tryz.prog 95 #[.int .u8 (c.toNat : Int)] w fun e w' => e = .returned (.int .i64 ((c.toNat : Int) - 65 + 10)) ∧ w' = w := by
 have c0 : (0 : Int) ≤ (c.toNat : Int) := Int.natCast_nonneg _
 have c1 : (c.toNat : Int) ≤ 255 := by have := c.toNat_lt; omega
 have a48 : (48 : Int) ≤ (c.toNat : Int) := by omega
 have b57 : ¬ (c.toNat : Int) ≤ 57 := by omega
 have a97 : ¬ (97 : Int) ≤ (c.toNat : Int) := by omega
 have b102 : (c.toNat : Int) ≤ 102 := by omega
 have a65 : (65 : Int) ≤ (c.toNat : Int) := by omega
 have b70 : (c.toNat : Int) ≤ 70 := by omega
 clear h1 h2
 go_enter Tryz.func95, Tryz.ntmps95
 go_wp2_with fail
 go_ret
 first
  | exact ⟨rfl, rfl⟩
  | exact ⟨ret_int (by omega), rfl⟩
set_option maxHeartbeats 1000000 in
theorem hexr4 (c : UInt8) (w : World) (h1 : 71 ≤ c.toNat) (h2 : c.toNat ≤ 96) : Calls Tryz.prog 95 #[.int .u8 (c.toNat : Int)] w fun e w' => e = .returned (.int .i64 (-1)) ∧ w' = w := by
 have c0 : (0 : Int) ≤ (c.toNat : Int) := Int.natCast_nonneg _
 have c1 : (c.toNat : Int) ≤ 255 := by have := c.toNat_lt; omega
 have a48 : (48 : Int) ≤ (c.toNat : Int) := by omega
 have b57 : ¬ (c.toNat : Int) ≤ 57 := by omega
 have a97 : ¬ (97 : Int) ≤ (c.toNat : Int) := by omega
 have b102 : (c.toNat : Int) ≤ 102 := by omega
 have a65 : (65 : Int) ≤ (c.toNat : Int) := by omega
 have b70 : ¬ (c.toNat : Int) ≤ 70 := by omega
 clear h1 h2
 go_enter Tryz.func95, Tryz.ntmps95
 go_wp2_with fail
 go_ret
 first
  | exact ⟨rfl, rfl⟩
  | exact ⟨ret_int (by omega), rfl⟩
set_option maxHeartbeats 1000000 in
theorem hexr5 (c : UInt8) (w : World) (h1 : 97 ≤ c.toNat) (h2 : c.toNat ≤ 102) : Calls Tryz.prog 95 #[.int .u8 (c.toNat : Int)] w fun e w' => e = .returned (.int .i64 ((c.toNat : Int) - 97 + 10)) ∧ w' = w := by
 have c0 : (0 : Int) ≤ (c.toNat : Int) := Int.natCast_nonneg _
 have c1 : (c.toNat : Int) ≤ 255 := by have := c.toNat_lt; omega
 have a48 : (48 : Int) ≤ (c.toNat : Int) := by omega
 have b57 : ¬ (c.toNat : Int) ≤ 57 := by omega
 have a97 : (97 : Int) ≤ (c.toNat : Int) := by omega
 have b102 : (c.toNat : Int) ≤ 102 := by omega
 have a65 : (65 : Int) ≤ (c.toNat : Int) := by omega
 have b70 : ¬ (c.toNat : Int) ≤ 70 := by omega
 clear h1 h2
 go_enter Tryz.func95, Tryz.ntmps95
 go_wp2_with fail
 go_ret
 first
  | exact ⟨rfl, rfl⟩
  | exact ⟨ret_int (by omega), rfl⟩
set_option maxHeartbeats 1000000 in
theorem hexr6 (c : UInt8) (w : World) (h1 : 103 ≤ c.toNat) (h2 : c.toNat ≤ 255) : Calls Tryz.prog 95 #[.int .u8 (c.toNat : Int)] w fun e w' => e = .returned (.int .i64 (-1)) ∧ w' = w := by
 have c0 : (0 : Int) ≤ (c.toNat : Int) := Int.natCast_nonneg _
 have c1 : (c.toNat : Int) ≤ 255 := by have := c.toNat_lt; omega
 have a48 : (48 : Int) ≤ (c.toNat : Int) := by omega
 have b57 : ¬ (c.toNat : Int) ≤ 57 := by omega
 have a97 : (97 : Int) ≤ (c.toNat : Int) := by omega
 have b102 : ¬ (c.toNat : Int) ≤ 102 := by omega
 have a65 : (65 : Int) ≤ (c.toNat : Int) := by omega
 have b70 : ¬ (c.toNat : Int) ≤ 70 := by omega
 clear h1 h2
 go_enter Tryz.func95, Tryz.ntmps95
 go_wp2_with fail
 go_ret
 first
  | exact ⟨rfl, rfl⟩
  | exact ⟨ret_int (by omega), rfl⟩
theorem hex_any (c : UInt8) (w : World) : Calls Tryz.prog 95 #[.int .u8 (c.toNat : Int)] w fun e w' => e = .returned (.int .i64 (hxI c)) ∧ w' = w := by
 have hc := c.toNat_lt
 by_cases k0 : 0 ≤ c.toNat ∧ c.toNat ≤ 47
 ·have hr : hxI c = -1 := by unfold hxI wo; rw [if_neg (by omega), if_neg (by omega), if_neg (by omega)]
  rw [hr]
  exact hexr0 c w k0.1 k0.2
 by_cases k1 : 48 ≤ c.toNat ∧ c.toNat ≤ 57
 ·have hr : hxI c = (c.toNat : Int) - 48 := by unfold hxI wo; rw [if_pos ⟨by omega, by omega⟩]; show ((c.toNat - 48 : Nat) : Int) = _; omega
  rw [hr]
  exact hexr1 c w k1.1 k1.2
 by_cases k2 : 58 ≤ c.toNat ∧ c.toNat ≤ 64
 ·have hr : hxI c = -1 := by unfold hxI wo; rw [if_neg (by omega), if_neg (by omega), if_neg (by omega)]
  rw [hr]
  exact hexr2 c w k2.1 k2.2
 by_cases k3 : 65 ≤ c.toNat ∧ c.toNat ≤ 70
 ·have hr : hxI c = (c.toNat : Int) - 65 + 10 := by unfold hxI wo; rw [if_neg (by omega), if_neg (by omega), if_pos ⟨by omega, by omega⟩]; show ((c.toNat - 55 : Nat) : Int) = _; omega
  rw [hr]
  exact hexr3 c w k3.1 k3.2
 by_cases k4 : 71 ≤ c.toNat ∧ c.toNat ≤ 96
 ·have hr : hxI c = -1 := by unfold hxI wo; rw [if_neg (by omega), if_neg (by omega), if_neg (by omega)]
  rw [hr]
  exact hexr4 c w k4.1 k4.2
 by_cases k5 : 97 ≤ c.toNat ∧ c.toNat ≤ 102
 ·have hr : hxI c = (c.toNat : Int) - 97 + 10 := by unfold hxI wo; rw [if_neg (by omega), if_pos ⟨by omega, by omega⟩]; show ((c.toNat - 87 : Nat) : Int) = _; omega
  rw [hr]
  exact hexr5 c w k5.1 k5.2
 by_cases k6 : 103 ≤ c.toNat ∧ c.toNat ≤ 255
 ·have hr : hxI c = -1 := by unfold hxI wo; rw [if_neg (by omega), if_neg (by omega), if_neg (by omega)]
  rw [hr]
  exact hexr6 c w k6.1 k6.2
 omega
end Pa
end Go.Proofs.YtkknenmpdimdbaaGreatDoor
