import Derived.Test.YtndciaidalnljaaBJoin2
namespace Go.Proofs.Ytndciaidalnljaa
open Go.RowKit
open BerMath (lo)

/-- The tag byte. -/
def fb (c : Nat) (m : Bool) (t : Nat) : UInt8 := UInt8.ofNat (c * 64 + (if m then 32 else 0) + t)
theorem fb_n (c : Nat) (m : Bool) (t : Nat) (hc : c ≤ 3) (ht : t ≤ 30) : ((fb c m t).toNat : Int) = (c : Int) * 64 + (if m then 32 else 0) + (t : Int) := by
  unfold fb
  rw [UInt8.toNat_ofNat', Nat.mod_eq_of_lt (by split <;> omega)]
  split <;> omega
theorem or_tag (c t : Nat) (hc : c ≤ 3) (ht : t ≤ 30) : bits .or .u8 ((c * 64 : Nat) : Int) (t : Int) = ((c * 64 + t : Nat) : Int) := by
  have key : ∀ (c : Fin 4) (t : Fin 31), bits .or .u8 ((c.val * 64 : Nat) : Int) ((t.val : Nat) : Int) = ((c.val * 64 + t.val : Nat) : Int) := by decide +kernel
  exact key ⟨c, by omega⟩ ⟨t, by omega⟩
theorem or_made (c t : Nat) (hc : c ≤ 3) (ht : t ≤ 30) : bits .or .u8 ((c * 64 + t : Nat) : Int) 32 = ((c * 64 + t + 32 : Nat) : Int) := by
  have key : ∀ (c : Fin 4) (t : Fin 31), bits .or .u8 ((c.val * 64 + t.val : Nat) : Int) 32 = ((c.val * 64 + t.val + 32 : Nat) : Int) := by decide +kernel
  exact key ⟨c, by omega⟩ ⟨t, by omega⟩
theorem u8_small (n : Nat) (h : n < 256) : IntKind.u8.wrap (n : Int) = (n : Int) := by
  simp [IntKind.wrap, IntKind.bits, IntKind.signed]; omega

end Go.Proofs.Ytndciaidalnljaa
