import Derived.Test.YtkknenmpdimdbaaGreatDoorFW31
import Derived.Test.YtkknenmpdimdbaaGreatDoorRows
import Derived.Laws.BitsLemmas
import Derived.Test.YtkknenmpdimdbaaGreatDoorBytes
import Derived.Deep.AppendLies
import Derived.Great.BuildSlice
import Derived.BigQuiet
import Derived.KernelRfl
namespace Go.Proofs.YtkknenmpdimdbaaGreatDoor
namespace Pa
open Go.RowKit
open TextMath (fold lo normal check wo unhex)
set_option linter.unusedVariables false
set_option linter.unusedSimpArgs false
set_option maxRecDepth 100000
def hxI (c : UInt8) : Int := match wo c with
 | some n => (n : Int)
 | none => -1
theorem hxI_hd (c : UInt8) : (0 ≤ hxI c ↔ hd c = true) := by
 unfold hxI hd
 cases wo c with
 | none => simp
 | some n => simp
theorem hxI_lt (c : UInt8) : -1 ≤ hxI c ∧ hxI c < 16 := by
 unfold hxI wo
 have := c.toNat_lt
 split
 ·rename_i n h
  split at h
  ·injection h; omega
  ·split at h
   ·injection h; omega
   ·split at h
    ·injection h; omega
    ·cases h
 ·omega
set_option maxHeartbeats 1000000 in
theorem word0 (c : UInt8) (w : World) (h1 : 0 ≤ c.toNat) (h2 : c.toNat ≤ 44) : Calls Tryz.prog 64 #[.int .u8 (c.toNat : Int)] w fun e w' => e = .returned (.bool false) ∧ w' = w := by
 have c0 : (0 : Int) ≤ (c.toNat : Int) := Int.natCast_nonneg _
 have c1 : (c.toNat : Int) ≤ 255 := by have := c.toNat_lt; omega
 have a97 : ¬ (97 : Int) ≤ (c.toNat : Int) := by omega
 have b122 : (c.toNat : Int) ≤ 122 := by omega
 have a65 : ¬ (65 : Int) ≤ (c.toNat : Int) := by omega
 have b90 : (c.toNat : Int) ≤ 90 := by omega
 have a48 : ¬ (48 : Int) ≤ (c.toNat : Int) := by omega
 have b57 : (c.toNat : Int) ≤ 57 := by omega
 have e45 : ((c.toNat : Int) == 45) = false := by rw [beq_eq_false_iff_ne]; omega
 have e46 : ((c.toNat : Int) == 46) = false := by rw [beq_eq_false_iff_ne]; omega
 clear h1 h2
 go_enter Tryz.func64, Tryz.ntmps64
 go_wp2_with fail
 go_ret
 first
  | exact ⟨rfl, rfl⟩
  | exact ⟨ret_int (by omega), rfl⟩
set_option maxHeartbeats 1000000 in
theorem word1 (c : UInt8) (w : World) (h1 : 45 ≤ c.toNat) (h2 : c.toNat ≤ 45) : Calls Tryz.prog 64 #[.int .u8 (c.toNat : Int)] w fun e w' => e = .returned (.bool true) ∧ w' = w := by
 have c0 : (0 : Int) ≤ (c.toNat : Int) := Int.natCast_nonneg _
 have c1 : (c.toNat : Int) ≤ 255 := by have := c.toNat_lt; omega
 have a97 : ¬ (97 : Int) ≤ (c.toNat : Int) := by omega
 have b122 : (c.toNat : Int) ≤ 122 := by omega
 have a65 : ¬ (65 : Int) ≤ (c.toNat : Int) := by omega
 have b90 : (c.toNat : Int) ≤ 90 := by omega
 have a48 : ¬ (48 : Int) ≤ (c.toNat : Int) := by omega
 have b57 : (c.toNat : Int) ≤ 57 := by omega
 have e45 : ((c.toNat : Int) == 45) = true := by rw [beq_iff_eq]; omega
 have e46 : ((c.toNat : Int) == 46) = false := by rw [beq_eq_false_iff_ne]; omega
 clear h1 h2
 go_enter Tryz.func64, Tryz.ntmps64
 go_wp2_with fail
 go_ret
 first
  | exact ⟨rfl, rfl⟩
  | exact ⟨ret_int (by omega), rfl⟩
set_option maxHeartbeats 1000000 in
theorem word2 (c : UInt8) (w : World) (h1 : 46 ≤ c.toNat) (h2 : c.toNat ≤ 46) : Calls Tryz.prog 64 #[.int .u8 (c.toNat : Int)] w fun e w' => e = .returned (.bool true) ∧ w' = w := by
 have c0 : (0 : Int) ≤ (c.toNat : Int) := Int.natCast_nonneg _
 have c1 : (c.toNat : Int) ≤ 255 := by have := c.toNat_lt; omega
 have a97 : ¬ (97 : Int) ≤ (c.toNat : Int) := by omega
 have b122 : (c.toNat : Int) ≤ 122 := by omega
 have a65 : ¬ (65 : Int) ≤ (c.toNat : Int) := by omega
 have b90 : (c.toNat : Int) ≤ 90 := by omega
 have a48 : ¬ (48 : Int) ≤ (c.toNat : Int) := by omega
 have b57 : (c.toNat : Int) ≤ 57 := by omega
 have e45 : ((c.toNat : Int) == 45) = false := by rw [beq_eq_false_iff_ne]; omega
 have e46 : ((c.toNat : Int) == 46) = true := by rw [beq_iff_eq]; omega
 clear h1 h2
 go_enter Tryz.func64, Tryz.ntmps64
 go_wp2_with fail
 go_ret
 first
  | exact ⟨rfl, rfl⟩
  | exact ⟨ret_int (by omega), rfl⟩
set_option maxHeartbeats 1000000 in
theorem word3 (c : UInt8) (w : World) (h1 : 47 ≤ c.toNat) (h2 : c.toNat ≤ 47) : Calls Tryz.prog 64 #[.int .u8 (c.toNat : Int)] w fun e w' => e = .returned (.bool false) ∧ w' = w := by
 have c0 : (0 : Int) ≤ (c.toNat : Int) := Int.natCast_nonneg _
 have c1 : (c.toNat : Int) ≤ 255 := by have := c.toNat_lt; omega
 have a97 : ¬ (97 : Int) ≤ (c.toNat : Int) := by omega
 have b122 : (c.toNat : Int) ≤ 122 := by omega
 have a65 : ¬ (65 : Int) ≤ (c.toNat : Int) := by omega
 have b90 : (c.toNat : Int) ≤ 90 := by omega
 have a48 : ¬ (48 : Int) ≤ (c.toNat : Int) := by omega
 have b57 : (c.toNat : Int) ≤ 57 := by omega
 have e45 : ((c.toNat : Int) == 45) = false := by rw [beq_eq_false_iff_ne]; omega
 have e46 : ((c.toNat : Int) == 46) = false := by rw [beq_eq_false_iff_ne]; omega
 clear h1 h2
 go_enter Tryz.func64, Tryz.ntmps64
 go_wp2_with fail
 go_ret
 first
  | exact ⟨rfl, rfl⟩
  | exact ⟨ret_int (by omega), rfl⟩
set_option maxHeartbeats 1000000 in
theorem word4 (c : UInt8) (w : World) (h1 : 48 ≤ c.toNat) (h2 : c.toNat ≤ 57) : Calls Tryz.prog 64 #[.int .u8 (c.toNat : Int)] w fun e w' => e = .returned (.bool true) ∧ w' = w := by
 have c0 : (0 : Int) ≤ (c.toNat : Int) := Int.natCast_nonneg _
 have c1 : (c.toNat : Int) ≤ 255 := by have := c.toNat_lt; omega
 have a97 : ¬ (97 : Int) ≤ (c.toNat : Int) := by omega
 have b122 : (c.toNat : Int) ≤ 122 := by omega
 have a65 : ¬ (65 : Int) ≤ (c.toNat : Int) := by omega
 have b90 : (c.toNat : Int) ≤ 90 := by omega
 have a48 : (48 : Int) ≤ (c.toNat : Int) := by omega
 have b57 : (c.toNat : Int) ≤ 57 := by omega
 have e45 : ((c.toNat : Int) == 45) = false := by rw [beq_eq_false_iff_ne]; omega
 have e46 : ((c.toNat : Int) == 46) = false := by rw [beq_eq_false_iff_ne]; omega
 clear h1 h2
 go_enter Tryz.func64, Tryz.ntmps64
 go_wp2_with fail
 go_ret
 first
  | exact ⟨rfl, rfl⟩
  | exact ⟨ret_int (by omega), rfl⟩
set_option maxHeartbeats 1000000 in
theorem word5 (c : UInt8) (w : World) (h1 : 58 ≤ c.toNat) (h2 : c.toNat ≤ 64) : Calls Tryz.prog 64 #[.int .u8 (c.toNat : Int)] w fun e w' => e = .returned (.bool false) ∧ w' = w := by
 have c0 : (0 : Int) ≤ (c.toNat : Int) := Int.natCast_nonneg _
 have c1 : (c.toNat : Int) ≤ 255 := by have := c.toNat_lt; omega
 have a97 : ¬ (97 : Int) ≤ (c.toNat : Int) := by omega
 have b122 : (c.toNat : Int) ≤ 122 := by omega
 have a65 : ¬ (65 : Int) ≤ (c.toNat : Int) := by omega
 have b90 : (c.toNat : Int) ≤ 90 := by omega
 have a48 : (48 : Int) ≤ (c.toNat : Int) := by omega
 have b57 : ¬ (c.toNat : Int) ≤ 57 := by omega
 have e45 : ((c.toNat : Int) == 45) = false := by rw [beq_eq_false_iff_ne]; omega
 have e46 : ((c.toNat : Int) == 46) = false := by rw [beq_eq_false_iff_ne]; omega
 clear h1 h2
 go_enter Tryz.func64, Tryz.ntmps64
 go_wp2_with fail
 go_ret
 first
  | exact ⟨rfl, rfl⟩
  | exact ⟨ret_int (by omega), rfl⟩
set_option maxHeartbeats 1000000 in
theorem word6 (c : UInt8) (w : World) (h1 : 65 ≤ c.toNat) (h2 : c.toNat ≤ 90) : Calls Tryz.prog 64 #[.int .u8 (c.toNat : Int)] w fun e w' => e = .returned (.bool true) ∧ w' = w := by
 have c0 : (0 : Int) ≤ (c.toNat : Int) := Int.natCast_nonneg _
 have c1 : (c.toNat : Int) ≤ 255 := by have := c.toNat_lt; omega
 have a97 : ¬ (97 : Int) ≤ (c.toNat : Int) := by omega
 have b122 : (c.toNat : Int) ≤ 122 := by omega
 have a65 : (65 : Int) ≤ (c.toNat : Int) := by omega
 have b90 : (c.toNat : Int) ≤ 90 := by omega
 have a48 : (48 : Int) ≤ (c.toNat : Int) := by omega
 have b57 : ¬ (c.toNat : Int) ≤ 57 := by omega
 have e45 : ((c.toNat : Int) == 45) = false := by rw [beq_eq_false_iff_ne]; omega
 have e46 : ((c.toNat : Int) == 46) = false := by rw [beq_eq_false_iff_ne]; omega
 clear h1 h2
 go_enter Tryz.func64, Tryz.ntmps64
 go_wp2_with fail
 go_ret
 first
  | exact ⟨rfl, rfl⟩
  | exact ⟨ret_int (by omega), rfl⟩
set_option maxHeartbeats 1000000 in
theorem word7 (c : UInt8) (w : World) (h1 : 91 ≤ c.toNat) (h2 : c.toNat ≤ 96) : Calls Tryz.prog 64 #[.int .u8 (c.toNat : Int)] w fun e w' => e = .returned (.bool false) ∧ w' = w := by
 have c0 : (0 : Int) ≤ (c.toNat : Int) := Int.natCast_nonneg _
 have c1 : (c.toNat : Int) ≤ 255 := by have := c.toNat_lt; omega
 have a97 : ¬ (97 : Int) ≤ (c.toNat : Int) := by omega
 have b122 : (c.toNat : Int) ≤ 122 := by omega
 have a65 : (65 : Int) ≤ (c.toNat : Int) := by omega
 have b90 : ¬ (c.toNat : Int) ≤ 90 := by omega
 have a48 : (48 : Int) ≤ (c.toNat : Int) := by omega
 have b57 : ¬ (c.toNat : Int) ≤ 57 := by omega
 have e45 : ((c.toNat : Int) == 45) = false := by rw [beq_eq_false_iff_ne]; omega
 have e46 : ((c.toNat : Int) == 46) = false := by rw [beq_eq_false_iff_ne]; omega
 clear h1 h2
 go_enter Tryz.func64, Tryz.ntmps64
 go_wp2_with fail
 go_ret
 first
  | exact ⟨rfl, rfl⟩
  | exact ⟨ret_int (by omega), rfl⟩
set_option maxHeartbeats 1000000 in
theorem word8 (c : UInt8) (w : World) (h1 : 97 ≤ c.toNat) (h2 : c.toNat ≤ 122) : Calls Tryz.prog 64 #[.int .u8 (c.toNat : Int)] w fun e w' => e = .returned (.bool true) ∧ w' = w := by
 have c0 : (0 : Int) ≤ (c.toNat : Int) := Int.natCast_nonneg _
 have c1 : (c.toNat : Int) ≤ 255 := by have := c.toNat_lt; omega
 have a97 : (97 : Int) ≤ (c.toNat : Int) := by omega
 have b122 : (c.toNat : Int) ≤ 122 := by omega
 have a65 : (65 : Int) ≤ (c.toNat : Int) := by omega
 have b90 : ¬ (c.toNat : Int) ≤ 90 := by omega
 have a48 : (48 : Int) ≤ (c.toNat : Int) := by omega
 have b57 : ¬ (c.toNat : Int) ≤ 57 := by omega
 have e45 : ((c.toNat : Int) == 45) = false := by rw [beq_eq_false_iff_ne]; omega
 have e46 : ((c.toNat : Int) == 46) = false := by rw [beq_eq_false_iff_ne]; omega
 clear h1 h2
 go_enter Tryz.func64, Tryz.ntmps64
 go_wp2_with fail
 go_ret
 first
  | exact ⟨rfl, rfl⟩
  | exact ⟨ret_int (by omega), rfl⟩
set_option maxHeartbeats 1000000 in
theorem word9 (c : UInt8) (w : World) (h1 : 123 ≤ c.toNat) (h2 : c.toNat ≤ 255) : Calls Tryz.prog 64 #[.int .u8 (c.toNat : Int)] w fun e w' => e = .returned (.bool false) ∧ w' = w := by
 have c0 : (0 : Int) ≤ (c.toNat : Int) := Int.natCast_nonneg _
 have c1 : (c.toNat : Int) ≤ 255 := by have := c.toNat_lt; omega
 have a97 : (97 : Int) ≤ (c.toNat : Int) := by omega
 have b122 : ¬ (c.toNat : Int) ≤ 122 := by omega
 have a65 : (65 : Int) ≤ (c.toNat : Int) := by omega
 have b90 : ¬ (c.toNat : Int) ≤ 90 := by omega
 have a48 : (48 : Int) ≤ (c.toNat : Int) := by omega
 have b57 : ¬ (c.toNat : Int) ≤ 57 := by omega
 have e45 : ((c.toNat : Int) == 45) = false := by rw [beq_eq_false_iff_ne]; omega
 have e46 : ((c.toNat : Int) == 46) = false := by rw [beq_eq_false_iff_ne]; omega
 clear h1 h2
 go_enter Tryz.func64, Tryz.ntmps64
 go_wp2_with fail
 go_ret
 first
  | exact ⟨rfl, rfl⟩
  | exact ⟨ret_int (by omega), rfl⟩
theorem word_any (c : UInt8) (w : World) : Calls Tryz.prog 64 #[.int .u8 (c.toNat : Int)] w fun e w' => e = .returned (.bool (tb c)) ∧ w' = w := by
 have hc := c.toNat_lt
 by_cases k0 : 0 ≤ c.toNat ∧ c.toNat ≤ 44
 ·have hr : tb c = false := by rw [tb_eq]; simp <;> omega
  rw [hr]
  exact word0 c w k0.1 k0.2
 by_cases k1 : 45 ≤ c.toNat ∧ c.toNat ≤ 45
 ·have hr : tb c = true := by rw [tb_eq]; simp <;> omega
  rw [hr]
  exact word1 c w k1.1 k1.2
 by_cases k2 : 46 ≤ c.toNat ∧ c.toNat ≤ 46
 ·have hr : tb c = true := by rw [tb_eq]; simp <;> omega
  rw [hr]
  exact word2 c w k2.1 k2.2
 by_cases k3 : 47 ≤ c.toNat ∧ c.toNat ≤ 47
 ·have hr : tb c = false := by rw [tb_eq]; simp <;> omega
  rw [hr]
  exact word3 c w k3.1 k3.2
 by_cases k4 : 48 ≤ c.toNat ∧ c.toNat ≤ 57
 ·have hr : tb c = true := by rw [tb_eq]; simp <;> omega
  rw [hr]
  exact word4 c w k4.1 k4.2
 by_cases k5 : 58 ≤ c.toNat ∧ c.toNat ≤ 64
 ·have hr : tb c = false := by rw [tb_eq]; simp <;> omega
  rw [hr]
  exact word5 c w k5.1 k5.2
 by_cases k6 : 65 ≤ c.toNat ∧ c.toNat ≤ 90
 ·have hr : tb c = true := by rw [tb_eq]; simp <;> omega
  rw [hr]
  exact word6 c w k6.1 k6.2
 by_cases k7 : 91 ≤ c.toNat ∧ c.toNat ≤ 96
 ·have hr : tb c = false := by rw [tb_eq]; simp <;> omega
  rw [hr]
  exact word7 c w k7.1 k7.2
 by_cases k8 : 97 ≤ c.toNat ∧ c.toNat ≤ 122
 ·have hr : tb c = true := by rw [tb_eq]; simp <;> omega
  rw [hr]
  exact word8 c w k8.1 k8.2
 by_cases k9 : 123 ≤ c.toNat ∧ c.toNat ≤ 255
 ·have hr : tb c = false := by rw [tb_eq]; simp <;> omega
  rw [hr]
  exact word9 c w k9.1 k9.2
 omega
set_option maxHeartbeats 1000000 in
theorem hexr0 (c : UInt8) (w : World) (h1 : 0 ≤ c.toNat) (h2 : c.toNat ≤ 47) : Calls Tryz.prog 95 #[.int .u8 (c.toNat : Int)] w fun e w' => e = .returned (.int .i64 (-1)) ∧ w' = w := by
 have c0 : (0 : Int) ≤ (c.toNat : Int) := Int.natCast_nonneg _
 have c1 : (c.toNat : Int) ≤ 255 := by have := c.toNat_lt; omega
 have a48 : ¬ (48 : Int) ≤ (c.toNat : Int) := by omega
 have b57 : (c.toNat : Int) ≤ 57 := by omega
 have a97 : ¬ (97 : Int) ≤ (c.toNat : Int) := by omega
 have b102 : (c.toNat : Int) ≤ 102 := by omega
 have a65 : ¬ (65 : Int) ≤ (c.toNat : Int) := by omega
 have b70 : (c.toNat : Int) ≤ 70 := by omega
 clear h1 h2
 go_enter Tryz.func95, Tryz.ntmps95
 go_wp2_with fail
 go_ret
 first
  | exact ⟨rfl, rfl⟩
  | exact ⟨ret_int (by omega), rfl⟩
set_option maxHeartbeats 1000000 in
theorem hexr1 (c : UInt8) (w : World) (h1 : 48 ≤ c.toNat) (h2 : c.toNat ≤ 57) : Calls Tryz.prog 95 #[.int .u8 (c.toNat : Int)] w fun e w' => e = .returned (.int .i64 ((c.toNat : Int) - 48)) ∧ w' = w := by
 have c0 : (0 : Int) ≤ (c.toNat : Int) := Int.natCast_nonneg _
 have c1 : (c.toNat : Int) ≤ 255 := by have := c.toNat_lt; omega
 have a48 : (48 : Int) ≤ (c.toNat : Int) := by omega
 have b57 : (c.toNat : Int) ≤ 57 := by omega
 have a97 : ¬ (97 : Int) ≤ (c.toNat : Int) := by omega
 have b102 : (c.toNat : Int) ≤ 102 := by omega
 have a65 : ¬ (65 : Int) ≤ (c.toNat : Int) := by omega
 have b70 : (c.toNat : Int) ≤ 70 := by omega
 clear h1 h2
 go_enter Tryz.func95, Tryz.ntmps95
 go_wp2_with fail
 go_ret
 first
  | exact ⟨rfl, rfl⟩
  | exact ⟨ret_int (by omega), rfl⟩
set_option maxHeartbeats 1000000 in
theorem hexr2 (c : UInt8) (w : World) (h1 : 58 ≤ c.toNat) (h2 : c.toNat ≤ 64) : Calls Tryz.prog 95 #[.int .u8 (c.toNat : Int)] w fun e w' => e = .returned (.int .i64 (-1)) ∧ w' = w := by
 have c0 : (0 : Int) ≤ (c.toNat : Int) := Int.natCast_nonneg _
 have c1 : (c.toNat : Int) ≤ 255 := by have := c.toNat_lt; omega
 have a48 : (48 : Int) ≤ (c.toNat : Int) := by omega
 have b57 : ¬ (c.toNat : Int) ≤ 57 := by omega
 have a97 : ¬ (97 : Int) ≤ (c.toNat : Int) := by omega
 have b102 : (c.toNat : Int) ≤ 102 := by omega
 have a65 : ¬ (65 : Int) ≤ (c.toNat : Int) := by omega
 have b70 : (c.toNat : Int) ≤ 70 := by omega
 clear h1 h2
 go_enter Tryz.func95, Tryz.ntmps95
 go_wp2_with fail
 go_ret
 first
  | exact ⟨rfl, rfl⟩
  | exact ⟨ret_int (by omega), rfl⟩
set_option maxHeartbeats 1000000 in
theorem hexr3 (c : UInt8) (w : World) (h1 : 65 ≤ c.toNat) (h2 : c.toNat ≤ 70) : Calls Tryz.prog 95 #[.int .u8 (c.toNat : Int)] w fun e w' => e = .returned (.int .i64 ((c.toNat : Int) - 65 + 10)) ∧ w' = w := by
 have c0 : (0 : Int) ≤ (c.toNat : Int) := Int.natCast_nonneg _
 have c1 : (c.toNat : Int) ≤ 255 := by have := c.toNat_lt; omega
 have a48 : (48 : Int) ≤ (c.toNat : Int) := by omega
 have b57 : ¬ (c.toNat : Int) ≤ 57 := by omega
 have a97 : ¬ (97 : Int) ≤ (c.toNat : Int) := by omega
 have b102 : (c.toNat : Int) ≤ 102 := by omega
 have a65 : (65 : Int) ≤ (c.toNat : Int) := by omega
 have b70 : (c.toNat : Int) ≤ 70 := by omega
 clear h1 h2
 go_enter Tryz.func95, Tryz.ntmps95
 go_wp2_with fail
 go_ret
 first
  | exact ⟨rfl, rfl⟩
  | exact ⟨ret_int (by omega), rfl⟩
set_option maxHeartbeats 1000000 in
theorem hexr4 (c : UInt8) (w : World) (h1 : 71 ≤ c.toNat) (h2 : c.toNat ≤ 96) : Calls Tryz.prog 95 #[.int .u8 (c.toNat : Int)] w fun e w' => e = .returned (.int .i64 (-1)) ∧ w' = w := by
 have c0 : (0 : Int) ≤ (c.toNat : Int) := Int.natCast_nonneg _
 have c1 : (c.toNat : Int) ≤ 255 := by have := c.toNat_lt; omega
 have a48 : (48 : Int) ≤ (c.toNat : Int) := by omega
 have b57 : ¬ (c.toNat : Int) ≤ 57 := by omega
 have a97 : ¬ (97 : Int) ≤ (c.toNat : Int) := by omega
 have b102 : (c.toNat : Int) ≤ 102 := by omega
 have a65 : (65 : Int) ≤ (c.toNat : Int) := by omega
 have b70 : ¬ (c.toNat : Int) ≤ 70 := by omega
 clear h1 h2
 go_enter Tryz.func95, Tryz.ntmps95
 go_wp2_with fail
 go_ret
 first
  | exact ⟨rfl, rfl⟩
  | exact ⟨ret_int (by omega), rfl⟩
set_option maxHeartbeats 1000000 in
theorem hexr5 (c : UInt8) (w : World) (h1 : 97 ≤ c.toNat) (h2 : c.toNat ≤ 102) : Calls Tryz.prog 95 #[.int .u8 (c.toNat : Int)] w fun e w' => e = .returned (.int .i64 ((c.toNat : Int) - 97 + 10)) ∧ w' = w := by
 have c0 : (0 : Int) ≤ (c.toNat : Int) := Int.natCast_nonneg _
 have c1 : (c.toNat : Int) ≤ 255 := by have := c.toNat_lt; omega
 have a48 : (48 : Int) ≤ (c.toNat : Int) := by omega
 have b57 : ¬ (c.toNat : Int) ≤ 57 := by omega
 have a97 : (97 : Int) ≤ (c.toNat : Int) := by omega
 have b102 : (c.toNat : Int) ≤ 102 := by omega
 have a65 : (65 : Int) ≤ (c.toNat : Int) := by omega
 have b70 : ¬ (c.toNat : Int) ≤ 70 := by omega
 clear h1 h2
 go_enter Tryz.func95, Tryz.ntmps95
 go_wp2_with fail
 go_ret
 first
  | exact ⟨rfl, rfl⟩
  | exact ⟨ret_int (by omega), rfl⟩
set_option maxHeartbeats 1000000 in
theorem hexr6 (c : UInt8) (w : World) (h1 : 103 ≤ c.toNat) (h2 : c.toNat ≤ 255) : Calls Tryz.prog 95 #[.int .u8 (c.toNat : Int)] w fun e w' => e = .returned (.int .i64 (-1)) ∧ w' = w := by
 have c0 : (0 : Int) ≤ (c.toNat : Int) := Int.natCast_nonneg _
 have c1 : (c.toNat : Int) ≤ 255 := by have := c.toNat_lt; omega
 have a48 : (48 : Int) ≤ (c.toNat : Int) := by omega
 have b57 : ¬ (c.toNat : Int) ≤ 57 := by omega
 have a97 : (97 : Int) ≤ (c.toNat : Int) := by omega
 have b102 : ¬ (c.toNat : Int) ≤ 102 := by omega
 have a65 : (65 : Int) ≤ (c.toNat : Int) := by omega
 have b70 : ¬ (c.toNat : Int) ≤ 70 := by omega
 clear h1 h2
 go_enter Tryz.func95, Tryz.ntmps95
 go_wp2_with fail
 go_ret
 first
  | exact ⟨rfl, rfl⟩
  | exact ⟨ret_int (by omega), rfl⟩
theorem hex_any (c : UInt8) (w : World) : Calls Tryz.prog 95 #[.int .u8 (c.toNat : Int)] w fun e w' => e = .returned (.int .i64 (hxI c)) ∧ w' = w := by
 have hc := c.toNat_lt
 by_cases k0 : 0 ≤ c.toNat ∧ c.toNat ≤ 47
 ·have hr : hxI c = -1 := by unfold hxI wo; rw [if_neg (by omega), if_neg (by omega), if_neg (by omega)]
  rw [hr]
  exact hexr0 c w k0.1 k0.2
 by_cases k1 : 48 ≤ c.toNat ∧ c.toNat ≤ 57
 ·have hr : hxI c = (c.toNat : Int) - 48 := by unfold hxI wo; rw [if_pos ⟨by omega, by omega⟩]; show ((c.toNat - 48 : Nat) : Int) = _; omega
  rw [hr]
  exact hexr1 c w k1.1 k1.2
 by_cases k2 : 58 ≤ c.toNat ∧ c.toNat ≤ 64
 ·have hr : hxI c = -1 := by unfold hxI wo; rw [if_neg (by omega), if_neg (by omega), if_neg (by omega)]
  rw [hr]
  exact hexr2 c w k2.1 k2.2
 by_cases k3 : 65 ≤ c.toNat ∧ c.toNat ≤ 70
 ·have hr : hxI c = (c.toNat : Int) - 65 + 10 := by unfold hxI wo; rw [if_neg (by omega), if_neg (by omega), if_pos ⟨by omega, by omega⟩]; show ((c.toNat - 55 : Nat) : Int) = _; omega
  rw [hr]
  exact hexr3 c w k3.1 k3.2
 by_cases k4 : 71 ≤ c.toNat ∧ c.toNat ≤ 96
 ·have hr : hxI c = -1 := by unfold hxI wo; rw [if_neg (by omega), if_neg (by omega), if_neg (by omega)]
  rw [hr]
  exact hexr4 c w k4.1 k4.2
 by_cases k5 : 97 ≤ c.toNat ∧ c.toNat ≤ 102
 ·have hr : hxI c = (c.toNat : Int) - 97 + 10 := by unfold hxI wo; rw [if_neg (by omega), if_pos ⟨by omega, by omega⟩]; show ((c.toNat - 87 : Nat) : Int) = _; omega
  rw [hr]
  exact hexr5 c w k5.1 k5.2
 by_cases k6 : 103 ≤ c.toNat ∧ c.toNat ≤ 255
 ·have hr : hxI c = -1 := by unfold hxI wo; rw [if_neg (by omega), if_neg (by omega), if_neg (by omega)]
  rw [hr]
  exact hexr6 c w k6.1 k6.2
 omega
end Pa
end Go.Proofs.YtkknenmpdimdbaaGreatDoor

namespace Go.Proofs.YtkknenmpdimdbaaGreatDoor
open Go.RowKit
open BerMath (Hd HR num hAt wAt El TR elEnd endE one andThen kids)
set_option linter.unusedVariables false
namespace BrM
def rs (b : List UInt8) (N : Nat) : List Nat → Nat → TR
 | [], _ => ([], none)
 | e :: st, p => andThen (kids b N e p (st.length + 2)) (fun _ => rs b N st e)
def Srt : Nat → List Nat → Prop
 | _, [] => True
 | p, e :: st => p ≤ e ∧ Srt e st
def Inv (s : ByteArray) (l : List El) (st : List Nat) (p : Nat) : Prop :=
 l ≠ [] ∧ tr s = (l ++ (rs s.data.toList s.size st p).1, (rs s.data.toList s.size st p).2) ∧ (st.head? = some (lastE l) ∨ p = lastE l) ∧ Srt p st ∧ (∀ e ∈ st, e ≤ s.size ∧ e ≤ 4294967301) ∧ st.length ≤ 64 ∧ 2 * l.length ≤ p ∧ p ≤ s.size ∧ p ≤ 4294967301
theorem andThen_nil (r : TR) : andThen r (fun _ => ([], none)) = r := by
 obtain ⟨xs, o⟩ := r
 cases o <;> simp [andThen]
theorem rs_pop (b : List UInt8) (N e : Nat) (st : List Nat) : rs b N (e :: st) e = rs b N st e := by
 show andThen (kids b N e e _) _ = _
 rw [BerMath.kids_end _ _ _ _ _ (Nat.le_refl _)]
 unfold andThen
 simp
theorem Inv.pop {s : ByteArray} {l : List El} {e : Nat} {st : List Nat} (h : Inv s l (e :: st) e) : Inv s l st e := by
 obtain ⟨h1, h2, h3, h4, h5, h6, h7, h8, h9⟩ := h
 rw [rs_pop] at h2
 refine ⟨h1, h2, Or.inr ?_, h4.2, fun x hx => h5 x (List.mem_cons_of_mem _ hx), by simp at h6; omega, h7, h8, h9⟩
 rcases h3 with h3 | h3
 ·simpa using h3
 ·exact h3
theorem Inv.done {s : ByteArray} {l : List El} {p : Nat} (h : Inv s l [] p) : tr s = (l, none) ∧ p = lastE l := by
 obtain ⟨h1, h2, h3, _⟩ := h
 refine ⟨?_, ?_⟩
 ·rw [h2]
  show (l ++ [], none) = _
  rw [List.append_nil]
 ·rcases h3 with h3 | h3
  ·simp at h3
  ·exact h3
theorem lastE_app (l : List El) (x : El) : lastE (l ++ [x]) = elEnd x := lastE_snoc l x
theorem rs_fail {b : List UInt8} {N e p : Nat} {st : List Nat} {f : Nat × Nat} (hp : p < e) (hN : e ≤ N) (ho : ∀ K, one b K 26 e p (st.length + 2) = ([], some f)) : rs b N (e :: st) p = ([], some f) := by
 obtain ⟨n, rfl⟩ : ∃ n, N = n + 1 := ⟨N - 1, by omega⟩
 show andThen (kids b (n + 1) e p _) _ = _
 rw [BerMath.kids_succ _ _ _ _ _ (by omega), ho]
 rfl
theorem rs_leaf {b : List UInt8} {N e p : Nat} {st : List Nat} {x : Hd} (hp : p < e) (hN : e ≤ N) (hd : ¬ 64 < st.length + 2) (hw : wAt b p e = .ok x) (hm : ¬ x.made = true) : rs b N (e :: st) p = ((p, x, st.length + 2) :: (rs b N ((p + x.size + x.len) :: e :: st) (p + x.size + x.len)).1, (rs b N ((p + x.size + x.len) :: e :: st) (p + x.size + x.len)).2) := by
 obtain ⟨k1, k2, k3, k4, k5, k6⟩ := BerMath.wAt_ok b p e x hw
 rw [rs_pop]
 obtain ⟨n, rfl⟩ : ∃ n, N = n + 1 := ⟨N - 1, by omega⟩
 show andThen (kids b (n + 1) e p _) _ = _
 rw [BerMath.kids_succ _ _ _ _ _ (by omega), BerMath.one_leaf _ _ _ _ _ _ x hd hw hm]
 show andThen (andThen ([(p, x, st.length + 2)], none) (fun xs => kids b n e (endE xs) (st.length + 2))) _ = (_ :: (andThen (kids b (n + 1) e (p + x.size + x.len) (st.length + 2)) _).1, (andThen (kids b (n + 1) e (p + x.size + x.len) (st.length + 2)) _).2)
 rw [← BerMath.kids_fuel b n (n + 1) e (p + x.size + x.len) (st.length + 2) (by omega) (by omega)]
 show andThen ([(p, x, st.length + 2)] ++ (kids b n e (p + x.size + x.len) (st.length + 2)).1, (kids b n e (p + x.size + x.len) (st.length + 2)).2) _ = _
 obtain ⟨⟨ys, o⟩, hr⟩ : ∃ y, kids b n e (p + x.size + x.len) (st.length + 2) = y := ⟨_, rfl⟩
 rw [hr]
 cases o <;> simp [andThen]
theorem rs_made {b : List UInt8} {N e p : Nat} {st : List Nat} {x : Hd} (hp : p < e) (hN : e ≤ N) (hd : ¬ 64 < st.length + 2) (hw : wAt b p e = .ok x) (hm : x.made = true) : rs b N (e :: st) p = ((p, x, st.length + 2) :: (rs b N ((p + x.size + x.len) :: e :: st) (p + x.size)).1, (rs b N ((p + x.size + x.len) :: e :: st) (p + x.size)).2) := by
 obtain ⟨k1, k2, k3, k4, k5, k6⟩ := BerMath.wAt_ok b p e x hw
 obtain ⟨n, rfl⟩ : ∃ n, N = n + 1 := ⟨N - 1, by omega⟩
 have hR : rs b (n + 1) ((p + x.size + x.len) :: e :: st) (p + x.size) = andThen (kids b n (p + x.size + x.len) (p + x.size) (st.length + 2 + 1)) (fun _ => andThen (kids b n e (p + x.size + x.len) (st.length + 2)) (fun _ => rs b (n + 1) st e)) := by
  show andThen (kids b (n + 1) (p + x.size + x.len) (p + x.size) (st.length + 1 + 2)) (fun _ => andThen (kids b (n + 1) e (p + x.size + x.len) (st.length + 2)) _) = _
  rw [BerMath.kids_fuel b (n + 1) n e (p + x.size + x.len) _ (by omega) (by omega), BerMath.kids_fuel b (n + 1) n (p + x.size + x.len) (p + x.size) _ (by omega) (by omega)]
 rw [hR]
 show andThen (kids b (n + 1) e p _) _ = _
 rw [BerMath.kids_succ _ _ _ _ _ (by omega), BerMath.one_made _ _ _ _ _ _ x hd hw hm]
 obtain ⟨⟨ys, o⟩, hr⟩ : ∃ y, kids b n (p + x.size + x.len) (p + x.size) (st.length + 2 + 1) = y := ⟨_, rfl⟩
 rw [hr]
 cases o with
 | some f => rfl
 | none =>
  show andThen (((p, x, st.length + 2) :: ys) ++ (kids b n e (p + x.size + x.len) (st.length + 2)).1, (kids b n e (p + x.size + x.len) (st.length + 2)).2) _ = _
  obtain ⟨⟨zs, o⟩, hz⟩ : ∃ y, kids b n e (p + x.size + x.len) (st.length + 2) = y := ⟨_, rfl⟩
  rw [hz]
  cases o <;> simp [andThen]
theorem Inv.step {s : ByteArray} {l : List El} {e p : Nat} {st : List Nat} {x : Hd} (h : Inv s l (e :: st) p) (hp : p < e) (hd : ¬ 64 < st.length + 2) (hw : wAt s.data.toList p e = .ok x) :
  Inv s (l ++ [(p, x, st.length + 2)]) ((p + x.size + x.len) :: e :: st) (if x.made = true then p + x.size else p + x.size + x.len) := by
 obtain ⟨h1, h2, h3, h4, h5, h6, h7, h8, h9⟩ := h
 obtain ⟨k1, k2, k3, k4, k5, k6⟩ := BerMath.wAt_ok _ p e x hw
 have he := h5 e (List.mem_cons_self ..)
 refine ⟨by simp, ?_, Or.inl ?_, ?_, ?_, ?_, ?_, ?_, ?_⟩
 ·by_cases hm : x.made = true
  ·rw [if_pos hm, h2, rs_made hp he.1 hd hw hm, List.append_assoc]
   rfl
  ·rw [if_neg hm, h2, rs_leaf hp he.1 hd hw hm, List.append_assoc]
   rfl
 ·rw [lastE_app]
  rfl
 ·refine ⟨?_, k6, h4.2⟩
  split <;> omega
 ·intro y hy
  rcases List.mem_cons.1 hy with rfl | hy
  ·omega
  ·exact h5 y hy
 ·simp only [List.length_cons]
  omega
 ·rw [List.length_append]
  simp only [List.length_cons, List.length_nil]
  split <;> omega
 ·split <;> omega
 ·split <;> omega
theorem Inv.start {s : ByteArray} {x : Hd} (hw : wAt s.data.toList 0 s.size = .ok x) :
  Inv s [(0, x, 1)] [0 + x.size + x.len] (if x.made = true then 0 + x.size else 0 + x.size + x.len) := by
 obtain ⟨k1, k2, k3, k4, k5, k6⟩ := BerMath.wAt_ok _ 0 _ x hw
 refine ⟨by simp, ?_, Or.inl ?_, ?_, ?_, ?_, ?_, ?_, ?_⟩
 ·unfold tr
  by_cases hm : x.made = true
  ·rw [if_pos hm, BerMath.one_made _ _ _ _ _ _ x (by decide) hw hm]
   show _ = ([_] ++ (andThen (kids _ _ _ _ 2) (fun _ => ([], none))).1, (andThen (kids _ _ _ _ 2) (fun _ => ([], none))).2)
   rw [andThen_nil]
   rfl
  ·rw [if_neg hm, BerMath.one_leaf _ _ _ _ _ _ x (by decide) hw hm, rs_pop]
   rfl
 ·rfl
 ·refine ⟨?_, trivial⟩
  split <;> omega
 ·intro y hy
  rcases List.mem_cons.1 hy with rfl | hy
  ·omega
  ·simp at hy
 ·simp
 ·simp only [List.length_cons, List.length_nil]
  split <;> omega
 ·split <;> omega
 ·split <;> omega
theorem Inv.fail {s : ByteArray} {l : List El} {e p : Nat} {st : List Nat} {f : Nat × Nat} (h : Inv s l (e :: st) p) (hp : p < e) (ho : ∀ K, one s.data.toList K 26 e p (st.length + 2) = ([], some f)) : tr s = (l, some f) := by
 obtain ⟨h1, h2, h3, h4, h5, h6, h7, h8, h9⟩ := h
 rw [h2, rs_fail hp (h5 e (List.mem_cons_self ..)).1 ho]
 simp
end BrM
end Go.Proofs.YtkknenmpdimdbaaGreatDoor

namespace Go.Proofs.YtkknenmpdimdbaaGreatDoor
namespace BnI
open Go.RowKit Go.Lib
set_option linter.unusedVariables false
set_option maxRecDepth 100000
theorem add_off (b o j : Nat) : (⟨b, o, none⟩ : Addr).add j = ⟨b, o + j, none⟩ := by
 unfold Addr.add
 by_cases h : j = 0
 ·subst h; rfl
 ·simp [h]
def iv (l : List Int) : List Value := l.map (Value.int .i64)
theorem iv_len (l : List Int) : (iv l).length = l.length := by simp [iv]
theorem iv_app (l k : List Int) : iv (l ++ k) = iv l ++ iv k := by simp [iv]
theorem iv_one (l : List Int) : ∀ u ∈ iv l, u.oneCell' = true := by
 intro u hu
 simp only [iv, List.mem_map] at hu
 obtain ⟨b, _, rfl⟩ := hu
 rfl
theorem info_i64 : (Tryz.prog.info? 3).map (fun i => (i.zero, i.size, i.bytes)) = some (some (.int .i64 0), 1, 8) := by kernel_rfl
def OwnI (W : World) (B : Nat) (v : Value) (l : List Int) : Prop := W.ownsRow B 3 1 v l.length (iv l)
theorem ownI_nil (W : World) (B : Nat) : OwnI W B (.slice none 0 0) [] := ⟨rfl, Or.inl ⟨rfl, rfl⟩⟩
theorem ownI_form {w : World} {B : Nat} {v : Value} {l : List Int} (h : OwnI w B v l) : (v = .slice none 0 0 ∧ l = []) ∨ (∃ g cap, v = .slice (some ⟨g, 0, none⟩) l.length cap ∧ l.length ≤ cap ∧ cap ≤ maxLen ∧ g < w.heap.size ∧ B ≤ g) := by
 have hl := h.1
 rcases h.2 with ⟨rfl, hn⟩ | ⟨g, cap, cur, rfl, h3, h4, h5, h6, _⟩
 ·exact Or.inl ⟨rfl, List.eq_nil_of_length_eq_zero hn⟩
 ·exact Or.inr ⟨g, cap, rfl, h5, h6, (Array.getElem?_eq_some_iff.1 h4).1, h3⟩
theorem ownI_cell {w : World} {B g cap : Nat} {l : List Int} (h : OwnI w B (.slice (some ⟨g, 0, none⟩) l.length cap) l) (i : Nat) (hi : i < l.length) : w.cell? ⟨g, i, none⟩ = some (.int .i64 l[i]) := by
 have hc := World.ownsRow.cellAt (show w.ownsRow B 3 1 _ l.length (iv l) from h) i (by omega)
 rw [hc]
 simp [iv, hi]
def NRow (w : World) (a : Option Addr) (l : List Int) : Prop := ∀ i (hi : i < l.length), ∃ b off, a = some ⟨b, off, none⟩ ∧ w.cell? ⟨b, off + i, none⟩ = some (.int .i64 l[i])
theorem NRow.below {w w' : World} {a : Option Addr} {l : List Int} (h : NRow w a l) (hb : Below w.heap.size w w') : NRow w' a l := fun i hi => by
 obtain ⟨b, off, e, h1⟩ := h i hi
 refine ⟨b, off, e, ?_⟩
 rw [hb.cell (World.block_lt_of_cell? w _ h1)]
 exact h1
theorem NRow.drewN {w : World} {a : Option Addr} {l : List Int} (h : NRow w a l) (k : Nat) : NRow (w.drewN k) a l := fun i hi => by
 obtain ⟨b, off, e, h1⟩ := h i hi
 exact ⟨b, off, e, h1⟩
theorem NRow.nil (w : World) (a : Option Addr) : NRow w a [] := fun i hi => by simp at hi
theorem ownI_row {w : World} {B n c : Nat} {a : Option Addr} {l : List Int} (h : OwnI w B (.slice a n c) l) : NRow w a l ∧ n = l.length := by
 rcases ownI_form h with ⟨h1, rfl⟩ | ⟨g, cap, h1, _⟩
 ·injection h1 with h1 h2
  exact ⟨NRow.nil _ _, h2⟩
 ·injection h1 with h1 h2 h3
  subst h1 h2 h3
  exact ⟨fun i hi => ⟨g, 0, rfl, by rw [Nat.zero_add]; exact ownI_cell h i hi⟩, rfl⟩
theorem ownI_slice {w : World} {B : Nat} {v : Value} {l : List Int} (h : OwnI w B v l) : ∃ a n c, v = .slice a n c := by
 rcases ownI_form h with ⟨h1, _⟩ | ⟨g, cap, h1, _⟩
 ·exact ⟨_, _, _, h1⟩
 ·exact ⟨_, _, _, h1⟩
end BnI
end Go.Proofs.YtkknenmpdimdbaaGreatDoor
