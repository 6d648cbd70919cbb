import Derived.Test.YtgfonnjblbpogaaBiMath
import Derived.Test.YtgfonnjblbpogaaBytes
import Derived.Test.YtgfonnjblbpogaaInfo
import Derived.Deep.OwnRows
namespace Go.Proofs.Ytgfonnjblbpogaa
open Go.RowKit
open BerMath (lo sz be enc sg fo val pad okInt)

theorem lo_wrap (n : Int) : IntKind.u8.wrap n = ((lo n).toNat : Int) := by
  rw [BerMath.lo_n]
  simp [IntKind.wrap, IntKind.bits, IntKind.signed]

theorem set_at (l t : List UInt8) (k : Nat) (b : UInt8) (h : l.length = k + 1) : (l ++ t).set k b = l.take k ++ b :: t := by
  rw [List.set_append_left _ _ (by omega)]
  have : l.set k b = l.take k ++ [b] := by
    rw [List.set_eq_take_append_cons_drop, if_pos (by omega), List.drop_of_length_le (by omega)]
  rw [this]; simp

theorem brow_made (w : World) (e : TypeId) (n : Nat) : BRow (w.alloc (.cells (madeCells #[.int .u8 0] n) e)) w.heap.size (List.replicate n 0) := by
  intro j hj
  have hj' : j < n := by simpa using hj
  rw [World.cell?_alloc_mark, World.frozen?_alloc_mark]
  simp [madeCells, hj', Nat.mod_one]

/-- What Int answers of a content. -/
def intV (l : List UInt8) : Value := if okInt l = true then .tuple #[.int .i64 (val l), .int .i64 0] else .tuple #[.int .i64 0, .int .i64 29]

theorem or_low (n : Int) (b : Nat) (hb : b < 256) (h1 : -36028797018963968 ≤ n) (h2 : n ≤ 36028797018963967) : bits .or .i64 (n * 256) (b : Int) = n * 256 + (b : Int) := by
  have e1 : (BitVec.ofInt 64 (b : Int)).toNat = b := by rw [BitVec.toNat_ofInt]; omega
  have e2 : (BitVec.ofInt 64 (n * 256)).toNat = (n % 72057594037927936).toNat <<< 8 := by
    rw [BitVec.toNat_ofInt, Nat.shiftLeft_eq]; omega
  have key : (BitVec.ofInt 64 (n * 256) ||| BitVec.ofInt 64 (b : Int)).toNat = (n % 72057594037927936).toNat * 256 + b := by
    rw [BitVec.toNat_or, e1, e2, ← Nat.shiftLeft_add_eq_or_of_lt (by omega), Nat.shiftLeft_eq]
  show IntKind.i64.wrap ((BitVec.ofInt 64 (n * 256) ||| BitVec.ofInt 64 (b : Int)).toNat : Nat) = _
  rw [key, IntKind.wrap_i64]
  omega

theorem fo_le (l : List UInt8) (h : l ≠ []) (h7 : l.length ≤ 7) : -36028797018963968 ≤ val l ∧ val l ≤ 36028797018963967 := by
  revert h7
  have key : ∀ (l : List UInt8), l ≠ [] → -(128 * 256 ^ (l.length - 1) : Int) ≤ val l ∧ val l < 128 * 256 ^ (l.length - 1) := by
    intro l h
    refine BerMath.snoc_ind (p := fun l => -(128 * 256 ^ (l.length - 1) : Int) ≤ val l ∧ val l < 128 * 256 ^ (l.length - 1)) ?_ ?_ l h
    · intro b
      have hb := b.toNat_lt
      rw [BerMath.val_one]
      simp
      split <;> omega
    · intro l b hl ih
      have hb := b.toNat_lt
      have hpos := List.length_pos_iff.mpr hl
      have e : (l ++ [b]).length - 1 = l.length - 1 + 1 := by simp; omega
      rw [e, BerMath.val_snoc l b hl, Int.pow_succ]
      generalize (256 : Int) ^ (l.length - 1) = q at *
      omega
  intro h7
  have hk := key l h
  have hpos := List.length_pos_iff.mpr h
  have hc : l.length - 1 = 0 ∨ l.length - 1 = 1 ∨ l.length - 1 = 2 ∨ l.length - 1 = 3 ∨ l.length - 1 = 4 ∨ l.length - 1 = 5 ∨ l.length - 1 = 6 := by omega
  rcases hc with e | e | e | e | e | e | e <;> rw [e] at hk <;> simp at hk <;> omega
end Go.Proofs.Ytgfonnjblbpogaa
