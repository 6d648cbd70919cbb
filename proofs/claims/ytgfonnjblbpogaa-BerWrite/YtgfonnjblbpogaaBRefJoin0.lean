import Derived.Test.YtgfonnjblbpogaaBJoin5
namespace Go.Proofs.Ytgfonnjblbpogaa
open Go.RowKit
open BerMath (lo be)

theorem lenB_be (n : Nat) (h : ¬ n < 128) : lenB n = UInt8.ofNat (128 + ll n) :: be (ll n) (n : Int) := by
  rcases ll_cases n with ⟨a, e⟩ | ⟨a, b, e⟩ | ⟨a, b, c, e⟩ | ⟨a, b, c, d, e⟩ | ⟨a, b, c, d, e⟩
  · exact absurd a h
  · unfold lenB; rw [if_neg a, if_pos b, e]; rfl
  · unfold lenB; rw [if_neg a, if_neg b, if_pos c, e]; rfl
  · unfold lenB; rw [if_neg a, if_neg b, if_neg c, if_pos d, e]
    show _ = [131, lo ((n : Int) / 256 / 256), lo ((n : Int) / 256), lo (n : Int)]
    rw [show (n : Int) / 256 / 256 = (n : Int) / 65536 by omega]
  · unfold lenB; rw [if_neg a, if_neg b, if_neg c, if_neg d, e]
    show _ = [132, lo ((n : Int) / 256 / 256 / 256), lo ((n : Int) / 256 / 256), lo ((n : Int) / 256), lo (n : Int)]
    rw [show (n : Int) / 256 / 256 / 256 = (n : Int) / 16777216 by omega, show (n : Int) / 256 / 256 = (n : Int) / 65536 by omega]
theorem ll_pow (n : Nat) (h : ¬ n < 128) (hn : n ≤ 4294967295) : n < 256 ^ ll n ∧ ∀ j, 1 ≤ j → j < ll n → 256 ^ j ≤ n := by
  have p2 : (256 : Nat) ^ 2 = 65536 := by decide
  have p3 : (256 : Nat) ^ 3 = 16777216 := by decide
  have p4 : (256 : Nat) ^ 4 = 4294967296 := by decide
  have p1 : (256 : Nat) ^ 1 = 256 := by decide
  rcases ll_cases n with ⟨a, e⟩ | ⟨a, b, e⟩ | ⟨a, b, c, e⟩ | ⟨a, b, c, d, e⟩ | ⟨a, b, c, d, e⟩
  · exact absurd a h
  · rw [e, p1]; exact ⟨b, fun j h1 h2 => by omega⟩
  · rw [e, p2]
    refine ⟨c, fun j h1 h2 => ?_⟩
    have : j = 1 := by omega
    subst this; rw [p1]; omega
  · rw [e, p3]
    refine ⟨d, fun j h1 h2 => ?_⟩
    have : j = 1 ∨ j = 2 := by omega
    rcases this with rfl | rfl
    · rw [p1]; omega
    · rw [p2]; omega
  · rw [e, p4]
    refine ⟨by omega, fun j h1 h2 => ?_⟩
    have : j = 1 ∨ j = 2 ∨ j = 3 := by omega
    rcases this with rfl | rfl | rfl
    · rw [p1]; omega
    · rw [p2]; omega
    · rw [p3]; omega
theorem pow_small (j : Nat) (h : j ≤ 4) : 256 ^ j ≤ 4294967296 := by
  have : (256 : Nat) ^ j ≤ 256 ^ 4 := Nat.pow_le_pow_right (by decide) h
  have e : (256 : Nat) ^ 4 = 4294967296 := by decide
  omega
theorem w_mul (P : Nat) (h : P ≤ 4294967296) : wrap64 ((P : Int) * 256) = ((P * 256 : Nat) : Int) := by unfold wrap64; omega
theorem w_add1 (P : Nat) (h : P ≤ 4294967296) : wrap64 ((P : Int) + 1) = ((P + 1 : Nat) : Int) := by unfold wrap64; omega
theorem tdiv_n (d : Nat) : (d : Int).tdiv 256 = ((d / 256 : Nat) : Int) := by rw [Int.tdiv_eq_ediv_of_nonneg (by omega)]; omega
theorem w_n (d : Nat) (h : d ≤ 4294967296) : wrap64 (d : Int) = (d : Int) := by unfold wrap64; omega
theorem tmod_lo (d : Nat) : IntKind.u8.wrap ((d : Int).tmod 256) = ((lo (d : Int)).toNat : Int) := by
  rw [Int.tmod_eq_emod_of_nonneg (by omega), lo_wrap, BerMath.lo_n, BerMath.lo_n]; omega
theorem mk_n (k : Nat) (h : k ≤ 4) : IntKind.u8.wrap (128 + (k : Int)) = ((UInt8.ofNat (128 + k)).toNat : Int) := by
  have : ∀ k : Fin 5, IntKind.u8.wrap (128 + (k.val : Int)) = ((UInt8.ofNat (128 + k.val)).toNat : Int) := by decide +kernel
  exact this ⟨k, by omega⟩
theorem w_128 (k : Nat) (h : k ≤ 4) : wrap64 (128 + (k : Int)) = 128 + (k : Int) := by unfold wrap64; omega
/-- A number without its lowest bytes. -/
def dv (n : Nat) : Nat → Nat
  | 0 => n
  | e + 1 => dv n e / 256
theorem dv_zero (n : Nat) : dv n 0 = n := rfl
theorem dv_next (n e : Nat) : dv n e / 256 = dv n (e + 1) := rfl
theorem dv_small (n e : Nat) (h : n ≤ 4294967295) : dv n e ≤ 4294967296 := by
  have key : dv n e ≤ n := by
    induction e with
    | zero => exact Nat.le_refl _
    | succ e ih => exact Nat.le_trans (Nat.div_le_self _ _) ih
  omega
theorem dv_be (k q n : Nat) : be (k + 1) ((dv n q : Nat) : Int) = be k ((dv n (q + 1) : Nat) : Int) ++ [lo ((dv n q : Nat) : Int)] := by
  have e : ((dv n q : Nat) : Int) / 256 = ((dv n (q + 1) : Nat) : Int) := by
    rw [← dv_next]; omega
  show be k (((dv n q : Nat) : Int) / 256) ++ _ = _
  rw [e]
theorem dv_be' (j e n : Nat) (h : e + 1 ≤ j) : be (j - e) ((dv n e : Nat) : Int) = be (j - (e + 1)) ((dv n (e + 1) : Nat) : Int) ++ [lo ((dv n e : Nat) : Int)] := by
  rw [← dv_be]
  congr 1
  omega
/-- The bytes so far. -/
def sofar (n j q : Nat) : List UInt8 := be (j - q) ((dv n q : Nat) : Int)
theorem sofar_next (n j e : Nat) (h : e + 1 ≤ j) : sofar n j e = sofar n j (e + 1) ++ [lo ((dv n e : Nat) : Int)] := dv_be' j e n h
theorem sofar_start (n j : Nat) : sofar n j j = [] := by unfold sofar; rw [Nat.sub_self]; rfl
theorem sofar_end (n j : Nat) : sofar n j 0 = be j (n : Int) := by unfold sofar; rw [dv_zero, Nat.sub_zero]
theorem sofar_len (n j q : Nat) : (sofar n j q).length ≤ j := by unfold sofar; rw [BerMath.be_len]; omega
theorem sofar_facts (n j q : Nat) (bl : List UInt8) (f g : UInt8) (h : q + 1 ≤ j) (h4 : j ≤ 4) (hbl : sofar n j (q + 1) = bl) : Hid (sofar n j q = bl ++ [lo ((dv n q : Nat) : Int)]) ∧ Hid ((f :: g :: bl).length ≤ 1099511627776) := by
  have h1 := sofar_len n j (q + 1)
  rw [hbl] at h1
  refine ⟨?_, ?_⟩
  · unfold Hid; rw [← hbl]; exact sofar_next n j q h
  · unfold Hid; rw [List.length_cons, List.length_cons]; omega
end Go.Proofs.Ytgfonnjblbpogaa
