import Derived.Test.YtddkefjcpgdomaaFrMath
import Derived.Test.YtddkefjcpgdomaaBytes
import Derived.Test.YtddkefjcpgdomaaInfo
import Derived.Lib.QuoteBits
namespace Go.Proofs.Ytddkefjcpgdomaa
open Go.RowKit
open FrMath (Hdr lb bd within Out ends cut Cut)

theorem f_or (n m : Nat) (hn : n < 4611686018427387904) (hm : m < 4611686018427387904) : bits .or .i64 (n : Int) (m : Int) = ((n ||| m : Nat) : Int) := by
  show IntKind.i64.wrap ((BitVec.ofInt 64 (n : Int) ||| BitVec.ofInt 64 (m : Int)).toNat : Int) = _
  rw [BitVec.toNat_or, ofInt_u64 n (by omega), ofInt_u64 m (by omega)]
  have : n ||| m < 2 ^ 62 := Nat.or_lt_two_pow (by omega) (by omega)
  exact Lib.wrap_i64_small _ (by omega)
/-- 'x | y', y's bits below x's. -/
theorem f_orLow (i : Nat) (x y : Int) (n m v : Nat) (hx : x = n) (hy : y = m) (hm : m < 2 ^ i) (hn : n % 2 ^ i = 0) (h1 : n < 4611686018427387904) (h2 : m < 4611686018427387904) (hv : v = n + m) : bits .or .i64 x y = (v : Int) := by
  subst hx hy hv
  rw [f_or n m h1 h2, nat_join i n m hn hm]
theorem f_or0 (x : Int) (n : Nat) (hx : x = n) (h1 : n < 4611686018427387904) : bits .or .i64 0 x = (n : Int) := by
  subst hx
  have := f_or 0 n (by omega) h1
  rw [Nat.zero_or] at this
  exact this

theorem lb_s (s : ByteArray) (p : Nat) (h : p < s.size) : lb s.data.toList p = s[p].toNat := by
  unfold FrMath.lb
  rw [getD_s s p h]

theorem lengthByte_any (s : ByteArray) (p : Nat) (P : Int) (hP : P = (p : Int)) (w : World) :
    Calls Try.prog 34 #[.string s, .int .i64 P] w fun r w' => r = .returned (.int .i64 (lb s.data.toList p : Int)) ∧ w = w' := by
  subst hP
  by_cases h : p < s.size
  · rw [lb_s s p h]
    have hw : wrap64 (s[p].toNat : Int) = (s[p].toNat : Int) := by have := s[p].toNat_lt; unfold wrap64; omega
    have p0 : (0 : Int) ≤ (p : Int) := by omega
    have p1 : (p : Int) < (s.size : Int) := by omega
    go_enter Try.func34, Try.ntmps34
    go_wp2
    go_ret
    exact ⟨ret_int hw, rfl⟩
  · rw [FrMath.lb_out _ _ (by rw [size_l]; omega)]
    go_enter Try.func34, Try.ntmps34
    go_wp2
    go_ret
    exact ⟨rfl, rfl⟩

theorem body1 (s : ByteArray) (w : World) :
    Calls Try.prog 31 #[.string s, .int .i64 3] w fun r w' => r = .returned (.int .i64 (bd s.data.toList 1 : Int)) ∧ w = w' := by
  obtain ⟨a, ha⟩ : ∃ a, lb s.data.toList 2 = a := ⟨_, rfl⟩
  have ta : a < 256 := ha ▸ FrMath.lb_lt _ _
  have he : Hid (bd s.data.toList 1 = a) := by unfold Hid; subst ha; simp [bd]
  have Ha := fun W => lengthByte_any s 2 2 rfl W
  rw [ha] at Ha
  obtain ⟨v0, ev0⟩ : ∃ v0, v0 = a := ⟨_, rfl⟩
  have o0 : bits .or .i64 0 (a : Int) = (v0 : Int) := f_or0 _ v0 (by omega) (by omega)
  have hf : Hid (bd s.data.toList 1 = v0) := by unfold Hid; rw [he.out]; omega
  clear he ha ev0
  go_enter Try.func31, Try.ntmps31
  go_wp2_with fail
  refine (Ha _).mono ?_
  rintro r w1 ⟨rfl, rfl⟩
  go_wp2_with fail
  go_ret
  exact ⟨by rw [hf.out]; rfl, rfl⟩

theorem body2 (s : ByteArray) (w : World) :
    Calls Try.prog 31 #[.string s, .int .i64 4] w fun r w' => r = .returned (.int .i64 (bd s.data.toList 2 : Int)) ∧ w = w' := by
  obtain ⟨a, ha⟩ : ∃ a, lb s.data.toList 2 = a := ⟨_, rfl⟩
  have ta : a < 256 := ha ▸ FrMath.lb_lt _ _
  obtain ⟨b, hb⟩ : ∃ b, lb s.data.toList 3 = b := ⟨_, rfl⟩
  have tb : b < 256 := hb ▸ FrMath.lb_lt _ _
  have he : Hid (bd s.data.toList 2 = (a) * 256 + b) := by unfold Hid; subst ha hb; simp [bd]
  have Ha := fun W => lengthByte_any s 2 2 rfl W
  rw [ha] at Ha
  have Hb := fun W => lengthByte_any s 3 3 rfl W
  rw [hb] at Hb
  obtain ⟨v0, ev0⟩ : ∃ v0, v0 = (a * 256) := ⟨_, rfl⟩
  have o0 : bits .or .i64 0 ((a : Int) * 256) = (v0 : Int) := f_or0 _ v0 (by omega) (by omega)
  obtain ⟨v1, ev1⟩ : ∃ v1, v1 = v0 + b := ⟨_, rfl⟩
  have o1 : bits .or .i64 (v0 : Int) (b : Int) = (v1 : Int) := f_orLow 8 _ _ v0 b v1 rfl (by omega) (by omega) (by omega) (by omega) (by omega) ev1
  have s0 : wrap64 ((a : Int) * 256) = (a : Int) * 256 := by unfold wrap64; omega
  have hf : Hid (bd s.data.toList 2 = v1) := by unfold Hid; rw [he.out]; omega
  clear he ha hb ev0 ev1
  go_enter Try.func31, Try.ntmps31
  go_wp2_with fail
  refine (Ha _).mono ?_
  rintro r w1 ⟨rfl, rfl⟩
  go_wp2_with fail
  refine (Hb _).mono ?_
  rintro r w1 ⟨rfl, rfl⟩
  go_wp2_with fail
  go_ret
  exact ⟨by rw [hf.out]; rfl, rfl⟩

theorem body3 (s : ByteArray) (w : World) :
    Calls Try.prog 31 #[.string s, .int .i64 5] w fun r w' => r = .returned (.int .i64 (bd s.data.toList 3 : Int)) ∧ w = w' := by
  obtain ⟨a, ha⟩ : ∃ a, lb s.data.toList 2 = a := ⟨_, rfl⟩
  have ta : a < 256 := ha ▸ FrMath.lb_lt _ _
  obtain ⟨b, hb⟩ : ∃ b, lb s.data.toList 3 = b := ⟨_, rfl⟩
  have tb : b < 256 := hb ▸ FrMath.lb_lt _ _
  obtain ⟨c, hc⟩ : ∃ c, lb s.data.toList 4 = c := ⟨_, rfl⟩
  have tc : c < 256 := hc ▸ FrMath.lb_lt _ _
  have he : Hid (bd s.data.toList 3 = ((a) * 256 + b) * 256 + c) := by unfold Hid; subst ha hb hc; simp [bd]
  have Ha := fun W => lengthByte_any s 2 2 rfl W
  rw [ha] at Ha
  have Hb := fun W => lengthByte_any s 3 3 rfl W
  rw [hb] at Hb
  have Hc := fun W => lengthByte_any s 4 4 rfl W
  rw [hc] at Hc
  obtain ⟨v0, ev0⟩ : ∃ v0, v0 = (a * 65536) := ⟨_, rfl⟩
  have o0 : bits .or .i64 0 ((a : Int) * 65536) = (v0 : Int) := f_or0 _ v0 (by omega) (by omega)
  obtain ⟨v1, ev1⟩ : ∃ v1, v1 = v0 + (b * 256) := ⟨_, rfl⟩
  have o1 : bits .or .i64 (v0 : Int) ((b : Int) * 256) = (v1 : Int) := f_orLow 16 _ _ v0 (b * 256) v1 rfl (by omega) (by omega) (by omega) (by omega) (by omega) ev1
  obtain ⟨v2, ev2⟩ : ∃ v2, v2 = v1 + c := ⟨_, rfl⟩
  have o2 : bits .or .i64 (v1 : Int) (c : Int) = (v2 : Int) := f_orLow 8 _ _ v1 c v2 rfl (by omega) (by omega) (by omega) (by omega) (by omega) ev2
  have s0 : wrap64 ((a : Int) * 65536) = (a : Int) * 65536 := by unfold wrap64; omega
  have s1 : wrap64 ((b : Int) * 256) = (b : Int) * 256 := by unfold wrap64; omega
  have hf : Hid (bd s.data.toList 3 = v2) := by unfold Hid; rw [he.out]; omega
  clear he ha hb hc ev0 ev1 ev2
  go_enter Try.func31, Try.ntmps31
  go_wp2_with fail
  refine (Ha _).mono ?_
  rintro r w1 ⟨rfl, rfl⟩
  go_wp2_with fail
  refine (Hb _).mono ?_
  rintro r w1 ⟨rfl, rfl⟩
  go_wp2_with fail
  refine (Hc _).mono ?_
  rintro r w1 ⟨rfl, rfl⟩
  go_wp2_with fail
  go_ret
  exact ⟨by rw [hf.out]; rfl, rfl⟩

theorem body4 (s : ByteArray) (w : World) :
    Calls Try.prog 31 #[.string s, .int .i64 6] w fun r w' => r = .returned (.int .i64 (bd s.data.toList 4 : Int)) ∧ w = w' := by
  obtain ⟨a, ha⟩ : ∃ a, lb s.data.toList 2 = a := ⟨_, rfl⟩
  have ta : a < 256 := ha ▸ FrMath.lb_lt _ _
  obtain ⟨b, hb⟩ : ∃ b, lb s.data.toList 3 = b := ⟨_, rfl⟩
  have tb : b < 256 := hb ▸ FrMath.lb_lt _ _
  obtain ⟨c, hc⟩ : ∃ c, lb s.data.toList 4 = c := ⟨_, rfl⟩
  have tc : c < 256 := hc ▸ FrMath.lb_lt _ _
  obtain ⟨d, hd⟩ : ∃ d, lb s.data.toList 5 = d := ⟨_, rfl⟩
  have td : d < 256 := hd ▸ FrMath.lb_lt _ _
  have he : Hid (bd s.data.toList 4 = (((a) * 256 + b) * 256 + c) * 256 + d) := by unfold Hid; subst ha hb hc hd; simp [bd]
  have Ha := fun W => lengthByte_any s 2 2 rfl W
  rw [ha] at Ha
  have Hb := fun W => lengthByte_any s 3 3 rfl W
  rw [hb] at Hb
  have Hc := fun W => lengthByte_any s 4 4 rfl W
  rw [hc] at Hc
  have Hd := fun W => lengthByte_any s 5 5 rfl W
  rw [hd] at Hd
  obtain ⟨v0, ev0⟩ : ∃ v0, v0 = (a * 16777216) := ⟨_, rfl⟩
  have o0 : bits .or .i64 0 ((a : Int) * 16777216) = (v0 : Int) := f_or0 _ v0 (by omega) (by omega)
  obtain ⟨v1, ev1⟩ : ∃ v1, v1 = v0 + (b * 65536) := ⟨_, rfl⟩
  have o1 : bits .or .i64 (v0 : Int) ((b : Int) * 65536) = (v1 : Int) := f_orLow 24 _ _ v0 (b * 65536) v1 rfl (by omega) (by omega) (by omega) (by omega) (by omega) ev1
  obtain ⟨v2, ev2⟩ : ∃ v2, v2 = v1 + (c * 256) := ⟨_, rfl⟩
  have o2 : bits .or .i64 (v1 : Int) ((c : Int) * 256) = (v2 : Int) := f_orLow 16 _ _ v1 (c * 256) v2 rfl (by omega) (by omega) (by omega) (by omega) (by omega) ev2
  obtain ⟨v3, ev3⟩ : ∃ v3, v3 = v2 + d := ⟨_, rfl⟩
  have o3 : bits .or .i64 (v2 : Int) (d : Int) = (v3 : Int) := f_orLow 8 _ _ v2 d v3 rfl (by omega) (by omega) (by omega) (by omega) (by omega) ev3
  have s0 : wrap64 ((a : Int) * 16777216) = (a : Int) * 16777216 := by unfold wrap64; omega
  have s1 : wrap64 ((b : Int) * 65536) = (b : Int) * 65536 := by unfold wrap64; omega
  have s2 : wrap64 ((c : Int) * 256) = (c : Int) * 256 := by unfold wrap64; omega
  have hf : Hid (bd s.data.toList 4 = v3) := by unfold Hid; rw [he.out]; omega
  clear he ha hb hc hd ev0 ev1 ev2 ev3
  go_enter Try.func31, Try.ntmps31
  go_wp2_with fail
  refine (Ha _).mono ?_
  rintro r w1 ⟨rfl, rfl⟩
  go_wp2_with fail
  refine (Hb _).mono ?_
  rintro r w1 ⟨rfl, rfl⟩
  go_wp2_with fail
  refine (Hc _).mono ?_
  rintro r w1 ⟨rfl, rfl⟩
  go_wp2_with fail
  refine (Hd _).mono ?_
  rintro r w1 ⟨rfl, rfl⟩
  go_wp2_with fail
  go_ret
  exact ⟨by rw [hf.out]; rfl, rfl⟩

end Go.Proofs.Ytddkefjcpgdomaa
