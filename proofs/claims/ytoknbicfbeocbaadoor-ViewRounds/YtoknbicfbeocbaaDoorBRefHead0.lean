import Derived.Test.YtoknbicfbeocbaaDoorBHead4
import Derived.Deep.DeepCutAuto
namespace Go.Proofs.YtoknbicfbeocbaaDoor
open Go.RowKit
open BerMath (Hd HR num hAt)

theorem round_nums (v b : Nat) (hv : v < 16777216) (hb : b < 256) : wrap64 (b : Int) = (b : Int) ∧ wrap64 ((v : Int) * 256) = (v : Int) * 256 ∧ wrap64 ((v : Int) * 256 + (b : Int)) = (v : Int) * 256 + (b : Int) := by
  unfold wrap64; omega
theorem meas_down (a I : Nat) (h : I < a) (hw : wrap64 ((I : Int) + 1) = ((I + 1 : Nat) : Int)) : a - (intOf (.int .i64 (wrap64 ((I : Int) + 1)))).toNat < a - (intOf (.int .i64 (I : Int))).toNat := by
  rw [hw]
  show a - (((I + 1 : Nat) : Int)).toNat < a - ((I : Nat) : Int).toNat
  rw [Int.toNat_natCast, Int.toNat_natCast]
  omega
theorem wrap_next (a : Nat) (h : a ≤ 140737488355328) : wrap64 ((a : Int) + 1) = ((a + 1 : Nat) : Int) := by unfold wrap64; omega
theorem cast_step (x v b : Nat) (h : x = v * 256 + b) : (x : Int) = (v : Int) * 256 + (b : Int) := by omega
theorem num_step (s : ByteArray) (q j : Nat) (h : q + j < s.size) : num 0 ((s.data.toList.drop q).take (j + 1)) = num 0 ((s.data.toList.drop q).take j) * 256 + s[q + j].toNat := by
  rw [drop_snoc s q j h, BerMath.num_snoc]
theorem num_small (s : ByteArray) (q j : Nat) (hj : j < 4) : num 0 ((s.data.toList.drop q).take j) < 16777216 := by
  have h := BerMath.num_lt ((s.data.toList.drop q).take j)
  have hl : ((s.data.toList.drop q).take j).length ≤ 3 := by rw [List.length_take]; omega
  have : 256 ^ ((s.data.toList.drop q).take j).length ≤ 256 ^ 3 := Nat.pow_le_pow_right (by decide) hl
  have e : (256 : Nat) ^ 3 = 16777216 := by decide
  omega

end Go.Proofs.YtoknbicfbeocbaaDoor
