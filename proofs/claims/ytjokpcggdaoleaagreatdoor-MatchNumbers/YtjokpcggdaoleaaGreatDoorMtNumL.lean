import Derived.Test.YtjokpcggdaoleaaGreatDoorMtNumM
import Derived.Lib.LaidTab
namespace Go.Proofs.YtjokpcggdaoleaaGreatDoor
open Go.RowKit
set_option linter.unusedVariables false

def TabW (w : World) : Prop := Lib.TabIs Tryz.prog w "internal/strconv.uint64pow10" .u64 Lib.pow10Tab
theorem TabW.below {W W' : World} (h : TabW W) (hb : Below W.heap.size W W') : TabW W' := by
  unfold TabW Lib.TabIs World.var? at h ⊢
  have hg : Tryz.prog.globalNamed "internal/strconv.uint64pow10" = some 0 := by kernel_rfl
  rw [hg] at h ⊢
  simp only [Option.bind_some] at h ⊢
  have hlt : 0 < W.heap.size := by
    rcases Nat.lt_or_ge 0 W.heap.size with h' | h'
    · exact h'
    · rw [Array.getElem?_eq_none h'] at h
      simp at h
  rw [hb.block _ hlt]
  exact h
theorem itoa_any (n : Int) (h0 : -9223372036854775808 ≤ n) (h1 : n ≤ 9223372036854775807) (w : World) (ht : TabW w) : Calls Tryz.prog 11 #[.int .i64 n] w fun e w' => e = .returned (.string (S (Lib.itoa n))) ∧ Below w.heap.size w w' :=
  (Tryz.strconv_Itoa n h0 h1 w ht).mono fun e w' ⟨he, k, os, hw⟩ => ⟨he, by
    subst hw
    refine ⟨rfl, rfl, rfl, ?_, fun j hj => ?_⟩
    · show w.heap.size ≤ (w.heap ++ os).size
      rw [Array.size_append]
      omega
    · show (w.heap ++ os)[j]? = w.heap[j]?
      exact Array.getElem?_append_left hj⟩
def tB (b : Bool) : Int := if b then 2 else 0
theorem tB_v (b : Bool) : (if b then Value.int .i64 2 else Value.int .i64 0) = .int .i64 (tB b) := by cases b <;> rfl
theorem nums_pack (x y : Int) (h0 : -9223372036854775808 ≤ x) (h1 : x ≤ 9223372036854775807) (k0 : -9223372036854775808 ≤ y) (k1 : y ≤ 9223372036854775807) (ev : Value) : ∃ (A B : ByteArray), S (Lib.itoa x) = A ∧ S (Lib.itoa y) = B ∧
    (∀ W, Hid (Calls Tryz.prog 6 #[.int .i64 7, .string A, .string B] W fun e w' => e = .returned (.int .i64 (tB (x == y))) ∧ Below W.heap.size W w')) ∧
    (∀ W, Hid (Calls Tryz.prog 9 #[.int .i64 7, .string A, .string B] W fun e w' => e = .returned (.int .i64 (tB (decide (x ≥ y)))) ∧ Below W.heap.size W w')) ∧
    (∀ W, Hid (Calls Tryz.prog 10 #[.int .i64 7, .string A, .string B] W fun e w' => e = .returned (.int .i64 (tB (decide (x ≤ y)))) ∧ Below W.heap.size W w')) ∧
    (∀ W, Hid (Calls Tryz.prog 8 #[.int .i64 16, .int .i64 7, .string A, .string B] W fun e w' => e = .returned (.int .i64 (tB (decide (x < y)))) ∧ Below W.heap.size W w')) ∧
    (∀ W, Hid (Calls Tryz.prog 8 #[.int .i64 7, .int .i64 7, .string A, .string B] W fun e w' => e = .returned (.int .i64 (tB (x == y))) ∧ Below W.heap.size W w')) ∧
    (∀ W, ErrV ev W → Hid (Calls Tryz.prog 8 #[.int .i64 19, .int .i64 7, .string A, .string B] W fun e w' => e = .returned (.int .i64 (tB (bits .and .i64 x y == y))) ∧ Below W.heap.size W w')) ∧
    (∀ W, ErrV ev W → Hid (Calls Tryz.prog 8 #[.int .i64 20, .int .i64 7, .string A, .string B] W fun e w' => e = .returned (.int .i64 (tB (bits .and .i64 x y != 0))) ∧ Below W.heap.size W w')) := by
  have o1 := MtNumM.itoa_ok x
  have o2 := MtNumM.itoa_ok y
  have hc := MtNumM.cmpI_itoa x y
  have z : ∀ n : Int, -9223372036854775808 ≤ n → n ≤ 9223372036854775807 → (S (Lib.itoa n)).size ≤ 1099511627776 := fun n a b => by
    rw [S_size]
    have : (Lib.itoa n).length ≤ 21 := by
      unfold Lib.itoa
      have hd : ∀ u : Nat, u < 10 ^ 20 → (Lib.decDigits u).length ≤ 20 := fun u hu => by
        rw [Lib.decDigits_length]
        by_cases h : u < 10
        · rw [Lib.nDigits_small h]; omega
        · have := MtNumM.pow_le u h
          have h3 : 10 ^ (Lib.nDigits u - 1) < 10 ^ 20 := by omega
          have := (Nat.pow_lt_pow_iff_right (by decide)).1 h3
          omega
      have e20 : (10 : Nat) ^ 20 = 100000000000000000000 := by decide
      split
      · rw [List.length_cons]
        have := hd n.natAbs (by rw [e20]; omega)
        omega
      · have := hd n.toNat (by rw [e20]; omega)
        omega
    omega
  have wx : WordIs ev (S (Lib.itoa x)) x true := word_ok ev _ x (z x h0 h1) (by rw [S_l]; exact o1) (by rw [S_l]; exact MtNumM.parse_itoa x h0 h1)
  have wy : WordIs ev (S (Lib.itoa y)) y true := word_ok ev _ y (z y k0 k1) (by rw [S_l]; exact o2) (by rw [S_l]; exact MtNumM.parse_itoa y k0 k1)
  have hb : ((S (Lib.itoa x)).toList == (S (Lib.itoa y)).toList) = (x == y) := by
    rw [toL_S, toL_S, Bool.eq_iff_iff]
    simpa using MtNumM.itoa_inj x y h0 h1 k0 k1
  have cg : decide (Lib.compareInt x y ≥ 0) = decide (x ≥ y) := by
    unfold Lib.compareInt
    rw [Bool.eq_iff_iff, decide_eq_true_iff, decide_eq_true_iff]
    split
    · omega
    · split <;> omega
  have cl : decide (Lib.compareInt x y ≤ 0) = decide (x ≤ y) := by
    unfold Lib.compareInt
    rw [Bool.eq_iff_iff, decide_eq_true_iff, decide_eq_true_iff]
    split
    · omega
    · split <;> omega
  have ca : decide (Lib.compareInt x y < 0) = decide (x < y) := by
    unfold Lib.compareInt
    rw [Bool.eq_iff_iff, decide_eq_true_iff, decide_eq_true_iff]
    split
    · omega
    · split <;> omega
  refine ⟨_, _, rfl, rfl, fun W => ?_, fun W => ?_, fun W => ?_, fun W => ?_, fun W => ?_, fun W hE => ?_, fun W hE => ?_⟩
  · have := intEq_any (S (Lib.itoa x)) (S (Lib.itoa y)) W
    rw [S_l, S_l, o1, o2] at this
    unfold nrm at this
    simp only [if_true, Bool.true_and] at this
    rw [hb] at this
    rw [← tB_v]
    exact this
  · have := least_any (S (Lib.itoa x)) (S (Lib.itoa y)) W
    rw [ordT_of _ _ _ o1 o2, hc] at this
    simp only [cg] at this
    rw [← tB_v]
    exact this
  · have := most_any (S (Lib.itoa x)) (S (Lib.itoa y)) W
    rw [ordT_of _ _ _ o1 o2, hc] at this
    simp only [cl] at this
    rw [← tB_v]
    exact this
  · have := byRuleAhead_any (S (Lib.itoa x)) (S (Lib.itoa y)) W
    rw [ordT_of _ _ _ o1 o2, hc] at this
    simp only [ca] at this
    rw [← tB_v]
    exact this
  · have := intRule_any (S (Lib.itoa x)) (S (Lib.itoa y)) W
    rw [S_l, S_l, o1, o2] at this
    unfold nrm at this
    simp only [if_true, Bool.true_and] at this
    rw [hb] at this
    rw [← tB_v]
    exact this
  · have := byRuleAll_any ev (S (Lib.itoa x)) (S (Lib.itoa y)) y x true true wy wx W hE
    rw [← tB_v]
    exact this
  · have := byRuleOne_any ev (S (Lib.itoa x)) (S (Lib.itoa y)) y x true true wy wx W hE
    rw [← tB_v]
    exact this
end Go.Proofs.YtjokpcggdaoleaaGreatDoor
