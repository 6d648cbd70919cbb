import Derived.Test.YtkknenmpdimdbaaGreatDoorFX20
import Derived.Test.YtkknenmpdimdbaaGreatDoorAtShelf
import Derived.Shelf.Abstract
namespace Go.Proofs.YtkknenmpdimdbaaGreatDoor
namespace Pa
open Go.RowKit
open TextMath (fold lo normal check wo)
set_option linter.unusedVariables false
set_option linter.unusedSimpArgs false
set_option maxRecDepth 100000
def dig (c : UInt8) : Bool := decide (48 ≤ c.toNat) && decide (c.toNat ≤ 57)
theorem hd_eq (c : UInt8) : hd c = (dig c || (decide (97 ≤ c.toNat) && decide (c.toNat ≤ 102)) || (decide (65 ≤ c.toNat) && decide (c.toNat ≤ 70))) := by
 unfold hd wo dig
 by_cases h1 : 48 ≤ c.toNat ∧ c.toNat ≤ 57
 ·simp [h1]
 ·by_cases h2 : 97 ≤ c.toNat ∧ c.toNat ≤ 102
  ·simp [h1, h2]
  ·by_cases h3 : 65 ≤ c.toNat ∧ c.toNat ≤ 70
   ·simp [h1, h2, h3]
   ·rw [if_neg h1, if_neg h2, if_neg h3]
    simp
    omega
theorem dig_eq (c : UInt8) : dig c = decide (48 ≤ c.toNat ∧ c.toNat ≤ 57) := by unfold dig; simp
theorem tb_eq (c : UInt8) : tb c = decide ((97 ≤ c.toNat ∧ c.toNat ≤ 122) ∨ (65 ≤ c.toNat ∧ c.toNat ≤ 90) ∨ (48 ≤ c.toNat ∧ c.toNat ≤ 57) ∨ c.toNat = 45 ∨ c.toNat = 46) := by
 unfold tb
 rw [Bool.eq_iff_iff]
 simp only [Bool.or_eq_true, decide_eq_true_eq]
 omega
set_option maxHeartbeats 1000000 in
theorem dg1 (c : UInt8) (w : World) (a48 : (48 : Int) ≤ (c.toNat : Int)) (b57 : (c.toNat : Int) ≤ 57) : Calls Tryz.prog 148 #[.int .u8 (c.toNat : Int)] w fun e w' => e = .returned (.bool true) ∧ w' = w := by
 go_enter Tryz.func148, Tryz.ntmps148
 go_wp2_with fail
 go_ret
 exact ⟨rfl, rfl⟩
set_option maxHeartbeats 1000000 in
theorem dg2 (c : UInt8) (w : World) (a48 : (48 : Int) ≤ (c.toNat : Int)) (b57 : ¬ (c.toNat : Int) ≤ 57) : Calls Tryz.prog 148 #[.int .u8 (c.toNat : Int)] w fun e w' => e = .returned (.bool false) ∧ w' = w := by
 go_enter Tryz.func148, Tryz.ntmps148
 go_wp2_with fail
 go_ret
 exact ⟨rfl, rfl⟩
set_option maxHeartbeats 1000000 in
theorem dg3 (c : UInt8) (w : World) (a48 : ¬ (48 : Int) ≤ (c.toNat : Int)) : Calls Tryz.prog 148 #[.int .u8 (c.toNat : Int)] w fun e w' => e = .returned (.bool false) ∧ w' = w := by
 go_enter Tryz.func148, Tryz.ntmps148
 go_wp2_with fail
 go_ret
 exact ⟨rfl, rfl⟩
theorem digit_any (c : UInt8) (w : World) : Calls Tryz.prog 148 #[.int .u8 (c.toNat : Int)] w fun e w' => e = .returned (.bool (dig c)) ∧ w' = w := by
 by_cases k0 : 48 ≤ c.toNat ∧ c.toNat ≤ 57
 ·have hr : dig c = true := by rw [dig_eq]; simp <;> omega
  rw [hr]
  exact dg1 c w (by omega) (by omega)
 by_cases k1 : 48 ≤ c.toNat
 ·have hr : dig c = false := by rw [dig_eq]; simp <;> omega
  rw [hr]
  exact dg2 c w (by omega) (by omega)
 have hr : dig c = false := by rw [dig_eq]; simp <;> omega
 rw [hr]
 exact dg3 c w (by omega)
set_option maxHeartbeats 1000000 in
theorem tb1 (c : UInt8) (w : World) (a97 : (97 : Int) ≤ (c.toNat : Int)) (b122 : (c.toNat : Int) ≤ 122) : Calls Tryz.prog 119 #[.int .u8 (c.toNat : Int)] w fun e w' => e = .returned (.bool true) ∧ w' = w := by
 go_enter Tryz.func119, Tryz.ntmps119
 go_wp2_with fail
 go_ret
 exact ⟨rfl, rfl⟩
set_option maxHeartbeats 1000000 in
theorem tb2 (c : UInt8) (w : World) (a97 : (97 : Int) ≤ (c.toNat : Int)) (b122 : ¬ (c.toNat : Int) ≤ 122) (a65 : (65 : Int) ≤ (c.toNat : Int)) (b90 : ¬ (c.toNat : Int) ≤ 90) (dig : dig c = false) (e45 : ((c.toNat : Int) == 45) = false) (e46 : ((c.toNat : Int) == 46) = false) : Calls Tryz.prog 119 #[.int .u8 (c.toNat : Int)] w fun e w' => e = .returned (.bool false) ∧ w' = w := by
 go_enter Tryz.func119, Tryz.ntmps119
 go_wp2_with (go_at_call 148; refine (digit_any c _).mono ?_; rintro e w' ⟨rfl, rfl⟩; rw [dig])
 go_ret
 exact ⟨rfl, rfl⟩
set_option maxHeartbeats 1000000 in
theorem tb3 (c : UInt8) (w : World) (a97 : ¬ (97 : Int) ≤ (c.toNat : Int)) (a65 : (65 : Int) ≤ (c.toNat : Int)) (b90 : (c.toNat : Int) ≤ 90) : Calls Tryz.prog 119 #[.int .u8 (c.toNat : Int)] w fun e w' => e = .returned (.bool true) ∧ w' = w := by
 go_enter Tryz.func119, Tryz.ntmps119
 go_wp2_with fail
 go_ret
 exact ⟨rfl, rfl⟩
set_option maxHeartbeats 1000000 in
theorem tb4 (c : UInt8) (w : World) (a97 : ¬ (97 : Int) ≤ (c.toNat : Int)) (a65 : (65 : Int) ≤ (c.toNat : Int)) (b90 : ¬ (c.toNat : Int) ≤ 90) (dig : dig c = false) (e45 : ((c.toNat : Int) == 45) = false) (e46 : ((c.toNat : Int) == 46) = false) : Calls Tryz.prog 119 #[.int .u8 (c.toNat : Int)] w fun e w' => e = .returned (.bool false) ∧ w' = w := by
 go_enter Tryz.func119, Tryz.ntmps119
 go_wp2_with (go_at_call 148; refine (digit_any c _).mono ?_; rintro e w' ⟨rfl, rfl⟩; rw [dig])
 go_ret
 exact ⟨rfl, rfl⟩
set_option maxHeartbeats 1000000 in
theorem tb5 (c : UInt8) (w : World) (a97 : ¬ (97 : Int) ≤ (c.toNat : Int)) (a65 : ¬ (65 : Int) ≤ (c.toNat : Int)) (dig : dig c = true) : Calls Tryz.prog 119 #[.int .u8 (c.toNat : Int)] w fun e w' => e = .returned (.bool true) ∧ w' = w := by
 go_enter Tryz.func119, Tryz.ntmps119
 go_wp2_with (go_at_call 148; refine (digit_any c _).mono ?_; rintro e w' ⟨rfl, rfl⟩; rw [dig])
 go_ret
 exact ⟨rfl, rfl⟩
set_option maxHeartbeats 1000000 in
theorem tb6 (c : UInt8) (w : World) (a97 : ¬ (97 : Int) ≤ (c.toNat : Int)) (a65 : ¬ (65 : Int) ≤ (c.toNat : Int)) (dig : dig c = false) (e45 : ((c.toNat : Int) == 45) = true) : Calls Tryz.prog 119 #[.int .u8 (c.toNat : Int)] w fun e w' => e = .returned (.bool true) ∧ w' = w := by
 go_enter Tryz.func119, Tryz.ntmps119
 go_wp2_with (go_at_call 148; refine (digit_any c _).mono ?_; rintro e w' ⟨rfl, rfl⟩; rw [dig])
 go_ret
 exact ⟨rfl, rfl⟩
set_option maxHeartbeats 1000000 in
theorem tb7 (c : UInt8) (w : World) (a97 : ¬ (97 : Int) ≤ (c.toNat : Int)) (a65 : ¬ (65 : Int) ≤ (c.toNat : Int)) (dig : dig c = false) (e45 : ((c.toNat : Int) == 45) = false) (e46 : ((c.toNat : Int) == 46) = true) : Calls Tryz.prog 119 #[.int .u8 (c.toNat : Int)] w fun e w' => e = .returned (.bool true) ∧ w' = w := by
 go_enter Tryz.func119, Tryz.ntmps119
 go_wp2_with (go_at_call 148; refine (digit_any c _).mono ?_; rintro e w' ⟨rfl, rfl⟩; rw [dig])
 go_ret
 exact ⟨rfl, rfl⟩
set_option maxHeartbeats 1000000 in
theorem tb8 (c : UInt8) (w : World) (a97 : ¬ (97 : Int) ≤ (c.toNat : Int)) (a65 : ¬ (65 : Int) ≤ (c.toNat : Int)) (dig : dig c = false) (e45 : ((c.toNat : Int) == 45) = false) (e46 : ((c.toNat : Int) == 46) = false) : Calls Tryz.prog 119 #[.int .u8 (c.toNat : Int)] w fun e w' => e = .returned (.bool false) ∧ w' = w := by
 go_enter Tryz.func119, Tryz.ntmps119
 go_wp2_with (go_at_call 148; refine (digit_any c _).mono ?_; rintro e w' ⟨rfl, rfl⟩; rw [dig])
 go_ret
 exact ⟨rfl, rfl⟩
theorem typeByte_any (c : UInt8) (w : World) : Calls Tryz.prog 119 #[.int .u8 (c.toNat : Int)] w fun e w' => e = .returned (.bool (tb c)) ∧ w' = w := by
 by_cases k0 : 97 ≤ c.toNat ∧ c.toNat ≤ 122
 ·have hr : tb c = true := by rw [tb_eq]; simp <;> omega
  rw [hr]
  exact tb1 c w (by omega) (by omega)
 by_cases k1 : 122 < c.toNat
 ·have hr : tb c = false := by rw [tb_eq]; simp <;> omega
  rw [hr]
  exact tb2 c w (by omega) (by omega) (by omega) (by omega) (by rw [dig_eq]; simp <;> omega) (by simp <;> omega) (by simp <;> omega)
 by_cases k2 : 65 ≤ c.toNat ∧ c.toNat ≤ 90
 ·have hr : tb c = true := by rw [tb_eq]; simp <;> omega
  rw [hr]
  exact tb3 c w (by omega) (by omega) (by omega)
 by_cases k3 : 90 < c.toNat
 ·have hr : tb c = false := by rw [tb_eq]; simp <;> omega
  rw [hr]
  exact tb4 c w (by omega) (by omega) (by omega) (by rw [dig_eq]; simp <;> omega) (by simp <;> omega) (by simp <;> omega)
 by_cases k4 : 48 ≤ c.toNat ∧ c.toNat ≤ 57
 ·have hr : tb c = true := by rw [tb_eq]; simp <;> omega
  rw [hr]
  exact tb5 c w (by omega) (by omega) (by rw [dig_eq]; simp <;> omega)
 by_cases k5 : c.toNat = 45
 ·have hr : tb c = true := by rw [tb_eq]; simp <;> omega
  rw [hr]
  exact tb6 c w (by omega) (by omega) (by rw [dig_eq]; simp <;> omega) (by simp <;> omega)
 by_cases k6 : c.toNat = 46
 ·have hr : tb c = true := by rw [tb_eq]; simp <;> omega
  rw [hr]
  exact tb7 c w (by omega) (by omega) (by rw [dig_eq]; simp <;> omega) (by simp <;> omega) (by simp <;> omega)
 have hr : tb c = false := by rw [tb_eq]; simp <;> omega
 rw [hr]
 exact tb8 c w (by omega) (by omega) (by rw [dig_eq]; simp <;> omega) (by simp <;> omega) (by simp <;> omega)
set_option maxHeartbeats 1000000 in
theorem hd1 (c : UInt8) (w : World) (dig : dig c = true) : Calls Tryz.prog 153 #[.int .u8 (c.toNat : Int)] w fun e w' => e = .returned (.bool true) ∧ w' = w := by
 go_enter Tryz.func153, Tryz.ntmps153
 go_wp2_with (go_at_call 148; refine (digit_any c _).mono ?_; rintro e w' ⟨rfl, rfl⟩; rw [dig])
 go_ret
 exact ⟨rfl, rfl⟩
set_option maxHeartbeats 1000000 in
theorem hd2 (c : UInt8) (w : World) (dig : dig c = false) (a97 : (97 : Int) ≤ (c.toNat : Int)) (b102 : (c.toNat : Int) ≤ 102) : Calls Tryz.prog 153 #[.int .u8 (c.toNat : Int)] w fun e w' => e = .returned (.bool true) ∧ w' = w := by
 go_enter Tryz.func153, Tryz.ntmps153
 go_wp2_with (go_at_call 148; refine (digit_any c _).mono ?_; rintro e w' ⟨rfl, rfl⟩; rw [dig])
 go_ret
 exact ⟨rfl, rfl⟩
set_option maxHeartbeats 1000000 in
theorem hd3 (c : UInt8) (w : World) (dig : dig c = false) (a97 : (97 : Int) ≤ (c.toNat : Int)) (b102 : ¬ (c.toNat : Int) ≤ 102) (a65 : (65 : Int) ≤ (c.toNat : Int)) (b70 : ¬ (c.toNat : Int) ≤ 70) : Calls Tryz.prog 153 #[.int .u8 (c.toNat : Int)] w fun e w' => e = .returned (.bool false) ∧ w' = w := by
 go_enter Tryz.func153, Tryz.ntmps153
 go_wp2_with (go_at_call 148; refine (digit_any c _).mono ?_; rintro e w' ⟨rfl, rfl⟩; rw [dig])
 go_ret
 refine ⟨?_, rfl⟩
 show Ending.returned (.bool _) = _
 simp [b102, b70]
set_option maxHeartbeats 1000000 in
theorem hd4 (c : UInt8) (w : World) (dig : dig c = false) (a97 : ¬ (97 : Int) ≤ (c.toNat : Int)) (a65 : (65 : Int) ≤ (c.toNat : Int)) (b70 : (c.toNat : Int) ≤ 70) : Calls Tryz.prog 153 #[.int .u8 (c.toNat : Int)] w fun e w' => e = .returned (.bool true) ∧ w' = w := by
 go_enter Tryz.func153, Tryz.ntmps153
 go_wp2_with (go_at_call 148; refine (digit_any c _).mono ?_; rintro e w' ⟨rfl, rfl⟩; rw [dig])
 go_ret
 exact ⟨rfl, rfl⟩
set_option maxHeartbeats 1000000 in
theorem hd5 (c : UInt8) (w : World) (dig : dig c = false) (a97 : ¬ (97 : Int) ≤ (c.toNat : Int)) (a65 : (65 : Int) ≤ (c.toNat : Int)) (b70 : ¬ (c.toNat : Int) ≤ 70) : Calls Tryz.prog 153 #[.int .u8 (c.toNat : Int)] w fun e w' => e = .returned (.bool false) ∧ w' = w := by
 go_enter Tryz.func153, Tryz.ntmps153
 go_wp2_with (go_at_call 148; refine (digit_any c _).mono ?_; rintro e w' ⟨rfl, rfl⟩; rw [dig])
 go_ret
 refine ⟨?_, rfl⟩
 show Ending.returned (.bool _) = _
 simp [b70]
set_option maxHeartbeats 1000000 in
theorem hd6 (c : UInt8) (w : World) (dig : dig c = false) (a97 : ¬ (97 : Int) ≤ (c.toNat : Int)) (a65 : ¬ (65 : Int) ≤ (c.toNat : Int)) : Calls Tryz.prog 153 #[.int .u8 (c.toNat : Int)] w fun e w' => e = .returned (.bool false) ∧ w' = w := by
 go_enter Tryz.func153, Tryz.ntmps153
 go_wp2_with (go_at_call 148; refine (digit_any c _).mono ?_; rintro e w' ⟨rfl, rfl⟩; rw [dig])
 go_ret
 exact ⟨rfl, rfl⟩
theorem hexDigit_any (c : UInt8) (w : World) : Calls Tryz.prog 153 #[.int .u8 (c.toNat : Int)] w fun e w' => e = .returned (.bool (hd c)) ∧ w' = w := by
 by_cases k0 : 48 ≤ c.toNat ∧ c.toNat ≤ 57
 ·have hr : hd c = true := by rw [hd_eq, dig_eq]; simp <;> omega
  rw [hr]
  exact hd1 c w (by rw [dig_eq]; simp <;> omega)
 by_cases k1 : 97 ≤ c.toNat ∧ c.toNat ≤ 102
 ·have hr : hd c = true := by rw [hd_eq, dig_eq]; simp <;> omega
  rw [hr]
  exact hd2 c w (by rw [dig_eq]; simp <;> omega) (by omega) (by omega)
 by_cases k2 : 102 < c.toNat
 ·have hr : hd c = false := by rw [hd_eq, dig_eq]; simp <;> omega
  rw [hr]
  exact hd3 c w (by rw [dig_eq]; simp <;> omega) (by omega) (by omega) (by omega) (by omega)
 by_cases k3 : 65 ≤ c.toNat ∧ c.toNat ≤ 70
 ·have hr : hd c = true := by rw [hd_eq, dig_eq]; simp <;> omega
  rw [hr]
  exact hd4 c w (by rw [dig_eq]; simp <;> omega) (by omega) (by omega) (by omega)
 by_cases k4 : 70 < c.toNat ∧ c.toNat < 97
 ·have hr : hd c = false := by rw [hd_eq, dig_eq]; simp <;> omega
  rw [hr]
  exact hd5 c w (by rw [dig_eq]; simp <;> omega) (by omega) (by omega) (by omega)
 have hr : hd c = false := by rw [hd_eq, dig_eq]; simp <;> omega
 rw [hr]
 exact hd6 c w (by rw [dig_eq]; simp <;> omega) (by omega) (by omega)
end Pa
end Go.Proofs.YtkknenmpdimdbaaGreatDoor

namespace Go.Proofs.YtkknenmpdimdbaaGreatDoor
namespace Pa
open Go.RowKit
open TextMath (fold lo normal check wo)
set_option linter.unusedVariables false
set_option linter.unusedSimpArgs false
set_option maxRecDepth 100000
def plc (b : Nat) (W : World) : Nat := match W.cell? ⟨b, 1, none⟩ with
 | some (.int _ i) => i.toNat
 | _ => 0
theorem plc_eq {b p : Nat} {s : ByteArray} {W : World} (h : Rd W b s p) : plc b W = p := by
 unfold plc
 rw [h.cells.2.1]
 simp
theorem tw_cons (P : UInt8 → Bool) {s : ByteArray} {k : Nat} (h : k < s.size) (hp : P s[k] = true) : (lf s k).takeWhile P = s[k] :: (lf s (k + 1)).takeWhile P := by rw [lf_cons h, List.takeWhile_cons, hp]; rfl
theorem tw_stop (P : UInt8 → Bool) {s : ByteArray} {k : Nat} (h : k < s.size) (hp : P s[k] = false) : (lf s k).takeWhile P = [] := by rw [lf_cons h, List.takeWhile_cons, hp]; rfl
theorem tw_end (P : UInt8 → Bool) {s : ByteArray} {k : Nat} (h : s.size ≤ k) : (lf s k).takeWhile P = [] := by rw [lf_nil h]; rfl
theorem ext_lf (s : ByteArray) (p k : Nat) : (s.extract p k).data.toList = (lf s p).take (k - p) := by
 unfold lf
 simp
def RwQ (P : UInt8 → Bool) (s : ByteArray) (p b : Nat) (w : World) (e : Ending) (w' : World) : Prop :=
 e = .returned (.string (S ((lf s p).takeWhile P))) ∧ Rd w' b s (p + ((lf s p).takeWhile P).length) ∧ p + ((lf s p).takeWhile P).length ≤ s.size ∧ Wb b w w'
theorem RwQ.drew {P : UInt8 → Bool} {s : ByteArray} {p b : Nat} {w : World} {e : Ending} {w' : World} (h : RwQ P s p b w e w') (n : Nat) : RwQ P s p b w e (w'.drewN n) := ⟨h.1, h.2.1, h.2.2.1, h.2.2.2.trans wb_drew⟩
set_option maxHeartbeats 2000000 in
theorem row_any (P : UInt8 → Bool) (q : FuncId) (hent : ∀ args W, (callFunc q args).run Tryz.prog W = .ok (.enter q args) W)
  (hq : ∀ (c : UInt8) (w : World), Calls Tryz.prog q #[.int .u8 (c.toNat : Int)] w fun e w' => e = .returned (.bool (P c)) ∧ w' = w)
  (s : ByteArray) (p b : Nat) (w : World) (h : Rd w b s p) (hp : p ≤ s.size) (hs : s.size ≤ 4096) :
  Calls Tryz.prog 117 #[.pointer (some ⟨b, 0, none⟩), .func (.func q) #[] #[]] w fun e w' => RwQ P s p b w e w' := by
 have hq' : ∀ c w, Hid (Calls Tryz.prog q #[.int .u8 (UInt8.toNat c : Int)] w fun e w' => e = .returned (.bool (P c)) ∧ w' = w) := hq
 obtain ⟨c0, c1, z1⟩ := h.cells
 have h' : Hid (Rd w b s p) := h
 have p0 : (0 : Int) ≤ (p : Int) := Int.natCast_nonneg _
 have pb : (p : Int) ≤ 4096 := by omega
 have hs' : Hid (s.size ≤ 4096 ∧ p ≤ s.size) := ⟨hs, hp⟩
 clear h hq
 go_enter Tryz.func117, Tryz.ntmps117
 go_wp2_with fail
 go_loopw [10] (fun _ wr => ∃ k : Nat, Hid (k ≤ s.size ∧ p ≤ k ∧ Rd wr b s k ∧ Wb b w wr ∧ (lf s p).takeWhile P = (s.extract p k).data.toList ++ (lf s k).takeWhile P)) (fun _ wr => s.size - plc b wr)
 case atStart => exact ⟨p, hs'.out.2, Nat.le_refl _, h'.out, Wb.refl _ _, by rw [ext_lf]; simp⟩
 case round =>
  obtain ⟨k, hQ⟩ := hrel
  clear c0 c1 z1
  obtain ⟨c0, c1, z1⟩ := hQ.out.2.2.1.cells
  have k0 : (0 : Int) ≤ (k : Int) := Int.natCast_nonneg _
  have kb : (k : Int) ≤ 4096 := by have := hs'.out.1; have := hQ.out.1; omega
  have pk : p ≤ k := hQ.out.2.1
  have pk' : (p : Int) ≤ (k : Int) := by omega
  have ks : (k : Int) ≤ (s.size : Int) := by have := hQ.out.1; omega
  by_cases hlt : k < s.size
  ·have k1 : (k : Int) < (s.size : Int) := Int.ofNat_lt.2 hlt
   have hcons := tw_cons P hlt
   have hstop := tw_stop P hlt
   have hc := hq' s[k]
   have hsn : Hid ((s.extract p (k + 1)).data.toList = (s.extract p k).data.toList ++ [s[k]]) := by
    unfold Hid
    rw [ext_lf, ext_lf, show k + 1 - p = (k - p) + 1 from by omega, List.take_succ_eq_append_getElem (by rw [lf_len]; omega)]
    congr 2
    unfold lf
    rw [List.getElem_drop]
    have e : p + (k - p) = k := by omega
    simp only [e]
    rfl
   have hcons' : Hid (P s[k] = true → (lf s k).takeWhile P = s[k] :: (lf s (k + 1)).takeWhile P) := hcons
   have hstop' : Hid (P s[k] = false → (lf s k).takeWhile P = []) := hstop
   clear hcons hstop
   obtain ⟨x, hx⟩ : ∃ x, s[k] = x := ⟨_, rfl⟩
   rw [hx] at hc hsn hcons' hstop'
   have hlt' : Hid (k < s.size) := hlt
   obtain ⟨y, hy⟩ : ∃ y, P x = y := ⟨_, rfl⟩
   rw [hy] at hcons' hstop'
   simp only [hy] at hc
   clear hy
   go_upto_region 2 with fail
   go_quiet ((exact Calls.quiet_of_same (hc _).out))
   rename_i nq
   have hR : Hid (Rd (wr.drewN nq) b s k ∧ Wb b w (wr.drewN nq)) := ⟨hQ.out.2.2.1, hQ.out.2.2.2.1.trans wb_drew⟩
   obtain ⟨W2, hW2⟩ : ∃ W, wr.drewN nq = W := ⟨_, rfl⟩
   rw [hW2] at hR ⊢
   clear c0 c1 z1 hW2 hc
   obtain ⟨c0, c1, z1⟩ := hR.out.1.cells
   cases y with
   | true =>
    have hfin : Hid (k + 1 ≤ s.size ∧ p ≤ k + 1 ∧ Rd (W2.setCell ⟨b, 1, none⟩ (.int .i64 ((k + 1 : Nat) : Int))) b s (k + 1) ∧ Wb b w (W2.setCell ⟨b, 1, none⟩ (.int .i64 ((k + 1 : Nat) : Int))) ∧ (lf s p).takeWhile P = (s.extract p (k + 1)).data.toList ++ (lf s (k + 1)).takeWhile P) :=
     ⟨hlt'.out, by omega, hR.out.1.set (k + 1), hR.out.2.set 1 _, by rw [hQ.out.2.2.2.2, hsn.out, hcons'.out rfl]; simp⟩
    have hms : Hid (s.size - plc b (W2.setCell ⟨b, 1, none⟩ (.int .i64 ((k + 1 : Nat) : Int))) < s.size - plc b wr) := by
     have := plc_eq hfin.out.2.2.1
     have := plc_eq hQ.out.2.2.1
     have := hlt'.out
     unfold Hid
     omega
    clear hQ hR hsn hcons' hstop'
    go_wp2_with fail
    go_roundw
    case rel => exact ⟨k + 1, hfin⟩
    case measure => exact hms.out
   | false =>
    have he : Hid ((lf s p).takeWhile P = (s.extract p k).data.toList) := by unfold Hid; rw [hQ.out.2.2.2.2, hstop'.out rfl, List.append_nil]
    have hex : S ((lf s p).takeWhile P) = s.extract p k := by rw [he.out]; rfl
    have hfin : Hid (RwQ P s p b w (.returned (.string (s.extract p k))) W2) := by
     have hlen : ((lf s p).takeWhile P).length = k - p := by rw [he.out, ext_lf, List.length_take, lf_len]; have := hlt'.out; omega
     refine ⟨by rw [hex], ?_, ?_, hR.out.2⟩
     ·rw [hlen, show p + (k - p) = k from by omega]; exact hR.out.1
     ·rw [hlen]; have := hlt'.out; omega
    clear he hex hQ hsn hcons' hstop'
    have p0' : (0 : Int) ≤ (p : Int) := Int.natCast_nonneg _
    have hexs : ¬ (k : Int) < (p : Int) := by omega
    go_wp2_with fail
    go_quiet (fail)
    rename_i nq2
    clear c0 c1 z1 hR
    go_wp2_with fail
    go_ret
    exact hfin.out.drew _
  ·have hke : k = s.size := by omega
   have hkn : ¬ (k : Int) < (s.size : Int) := by omega
   have he : (lf s p).takeWhile P = (s.extract p k).data.toList := by rw [hQ.out.2.2.2.2, tw_end P (by omega), List.append_nil]
   have hex : S ((lf s p).takeWhile P) = s.extract p k := by rw [he]; rfl
   have hR : Hid (Rd wr b s k ∧ Wb b w wr) := ⟨hQ.out.2.2.1, hQ.out.2.2.2.1⟩
   have hfin : Hid (RwQ P s p b w (.returned (.string (s.extract p k))) wr) := by
    have hlen : ((lf s p).takeWhile P).length = k - p := by rw [he, ext_lf, List.length_take, lf_len]; omega
    refine ⟨by rw [hex], ?_, ?_, hR.out.2⟩
    ·rw [hlen, show p + (k - p) = k from by omega]; exact hR.out.1
    ·rw [hlen]; omega
   have hkd : decide ((k : Int) < (s.size : Int)) = false := by simp; omega
   clear he hex hQ hke hlt
   go_upto_region 2 with fail
   go_quiet (fail)
   rename_i nq
   have hfd : Hid (RwQ P s p b w (.returned (.string (s.extract p k))) (wr.drewN nq)) := hfin.out.drew nq
   obtain ⟨W2, hW2⟩ : ∃ W, wr.drewN nq = W := ⟨_, rfl⟩
   have hc2 : W2.cell? ⟨b, 0, none⟩ = some (.string s) ∧ W2.cell? ⟨b, 1, none⟩ = some (.int .i64 (k : Int)) := by rw [← hW2]; exact ⟨c0, c1⟩
   obtain ⟨d0, d1⟩ := hc2
   rw [hW2] at hfd ⊢
   clear hW2 c0 c1 z1 hR
   go_wp2_with fail
   go_quiet (fail)
   rename_i nq2
   clear d0 d1
   go_wp2_with fail
   go_ret
   exact hfd.out.drew _
def SkQ (s : ByteArray) (p b : Nat) (w : World) (w' : World) : Prop := ∃ p', lf s p' = sp (lf s p) ∧ p ≤ p' ∧ p' ≤ s.size ∧ Rd w' b s p' ∧ Wb b w w'
theorem tw_sp (s : ByteArray) (p : Nat) : lf s (p + ((lf s p).takeWhile (· == 32)).length) = sp (lf s p) := by
 unfold sp
 rw [← lf_drop]
 generalize lf s p = l
 induction l with
 | nil => rfl
 | cons c l ih =>
  rw [List.takeWhile_cons, List.dropWhile_cons]
  split
  ·simpa using ih
  ·rfl
set_option maxHeartbeats 1000000 in
theorem space_any (c : UInt8) (w : World) : Calls Tryz.prog 118 #[.int .u8 (c.toNat : Int)] w fun e w' => e = .returned (.bool (c == 32)) ∧ w' = w := by
 have h : (c == 32) = ((c.toNat : Int) == 32) := by
  rw [Bool.eq_iff_iff, beq_iff_eq, beq_iff_eq]
  constructor
  ·rintro rfl; rfl
  ·intro h; exact UInt8.toNat_inj.1 (by have : (32 : UInt8).toNat = 32 := rfl; omega)
 rw [h]
 clear h
 go_enter Tryz.func118, Tryz.ntmps118
 go_wp2_with fail
 go_ret
 exact ⟨rfl, rfl⟩
set_option maxHeartbeats 1000000 in
theorem skip_any (s : ByteArray) (p b : Nat) (w : World) (h : Rd w b s p) (hp : p ≤ s.size) (hs : s.size ≤ 4096) :
  Calls Tryz.prog 87 #[.pointer (some ⟨b, 0, none⟩)] w fun e w' => e = .returned (.tuple #[]) ∧ SkQ s p b w w' := by
 have hR : Hid (Calls Tryz.prog 117 #[.pointer (some ⟨b, 0, none⟩), .func (.func 118) #[] #[]] w fun e w' => RwQ (· == 32) s p b w e w') := row_any (· == 32) _ (enters_of Tryz.func118 (by kernel_rfl) rfl) space_any s p b w h hp hs
 clear h
 go_enter Tryz.func87, Tryz.ntmps87
 go_wp2_with fail
 refine hR.out.mono ?_
 rintro e W1 ⟨rfl, h1, h2, h3⟩
 have hfin : Hid (SkQ s p b w W1) := ⟨_, tw_sp s p, Nat.le_add_right _ _, h2, h1, h3⟩
 clear h1 h2 h3 hR
 generalize S ((lf s p).takeWhile (· == 32)) = X at *
 go_wp2_with fail
 go_end0
 exact ⟨rfl, hfin.out⟩
set_option maxHeartbeats 1000000 in
theorem rest_any (s : ByteArray) (p b : Nat) (w : World) (h : Rd w b s p) (hp : p ≤ s.size) (hs : s.size ≤ 4096) :
  Calls Tryz.prog 150 #[.pointer (some ⟨b, 0, none⟩)] w fun e w' => e = .returned (.string (S (lf s p))) ∧ ∃ n, w' = w.drewN n := by
 obtain ⟨c0, c1, z1⟩ := h.cells
 have e : S (lf s p) = s.extract p s.size := by
  have := ext_lf s p s.size
  rw [List.take_of_length_le (by rw [lf_len]; exact Nat.le_refl _)] at this
  rw [← this]
  rfl
 rw [e]
 have p0 : (0 : Int) ≤ (p : Int) := Int.natCast_nonneg _
 have pb : (p : Int) ≤ (s.size : Int) := by omega
 have sb : (s.size : Int) ≤ 4096 := by omega
 clear h e
 go_enter Tryz.func150, Tryz.ntmps150
 go_wp2_with fail
 go_quiet (fail)
 go_wp2_with fail
 go_ret
 exact ⟨rfl, _, rfl⟩
end Pa
end Go.Proofs.YtkknenmpdimdbaaGreatDoor
