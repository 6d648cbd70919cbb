import Derived.Test.YtnboimoncpphlaaRows
import Derived.WalkKit
import Derived.KernelRfl
namespace Go.Proofs.Ytnboimoncpphlaa
open Go.RowKit
/-- The zero values of the table's arrays and of the book, as constants of their own. -/
def Try.zeroCells72 : Array Value := (List.replicate 108 (Value.string ⟨#[]⟩)).toArray
def Try.zeroCells74 : Array Value := (List.replicate 78 (Value.string ⟨#[]⟩)).toArray
def Try.zeroCells52 : Array Value := (List.replicate 186 (Value.string ⟨#[]⟩) ++ [Value.map none]).toArray
@[simp] theorem Try.zeroValue72 (w : World) : (zeroValue 72).run Try.prog w = .ok (.agg Try.zeroCells72) w := by kernel_rfl
@[simp] theorem Try.zeroValue74 (w : World) : (zeroValue 74).run Try.prog w = .ok (.agg Try.zeroCells74) w := by kernel_rfl
@[simp] theorem Try.zeroValue52 (w : World) : (zeroValue 52).run Try.prog w = .ok (.agg Try.zeroCells52) w := by kernel_rfl
@[simp] theorem Try.zeroCells72_ne : Try.zeroCells72 ≠ #[] := fun h => by
  have : (Try.zeroCells72).size = 108 := by kernel_rfl
  rw [h] at this
  cases this
@[simp] theorem Try.zeroCells74_ne : Try.zeroCells74 ≠ #[] := fun h => by
  have : (Try.zeroCells74).size = 78 := by kernel_rfl
  rw [h] at this
  cases this
@[simp] theorem Try.zeroCells52_ne : Try.zeroCells52 ≠ #[] := fun h => by
  have : (Try.zeroCells52).size = 187 := by kernel_rfl
  rw [h] at this
  cases this
end Go.Proofs.Ytnboimoncpphlaa
