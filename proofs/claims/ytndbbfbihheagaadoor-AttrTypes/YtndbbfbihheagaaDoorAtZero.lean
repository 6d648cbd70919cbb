import Derived.Test.YtndbbfbihheagaaDoorRows
import Derived.WalkKit
import Derived.KernelRfl
namespace Go.Proofs.YtndbbfbihheagaaDoor
open Go.RowKit
/-- The zero values of the table's arrays and of the book, as constants of their own. -/
def Tryd.zeroCells61 : Array Value := (List.replicate 108 (Value.string ⟨#[]⟩)).toArray
def Tryd.zeroCells63 : Array Value := (List.replicate 78 (Value.string ⟨#[]⟩)).toArray
def Tryd.zeroCells43 : Array Value := (List.replicate 186 (Value.string ⟨#[]⟩) ++ [Value.map none]).toArray
@[simp] theorem Tryd.zeroValue61 (w : World) : (zeroValue 61).run Tryd.prog w = .ok (.agg Tryd.zeroCells61) w := by kernel_rfl
@[simp] theorem Tryd.zeroValue63 (w : World) : (zeroValue 63).run Tryd.prog w = .ok (.agg Tryd.zeroCells63) w := by kernel_rfl
@[simp] theorem Tryd.zeroValue43 (w : World) : (zeroValue 43).run Tryd.prog w = .ok (.agg Tryd.zeroCells43) w := by kernel_rfl
@[simp] theorem Tryd.zeroCells61_ne : Tryd.zeroCells61 ≠ #[] := fun h => by
  have : (Tryd.zeroCells61).size = 108 := by kernel_rfl
  rw [h] at this
  cases this
@[simp] theorem Tryd.zeroCells63_ne : Tryd.zeroCells63 ≠ #[] := fun h => by
  have : (Tryd.zeroCells63).size = 78 := by kernel_rfl
  rw [h] at this
  cases this
@[simp] theorem Tryd.zeroCells43_ne : Tryd.zeroCells43 ≠ #[] := fun h => by
  have : (Tryd.zeroCells43).size = 187 := by kernel_rfl
  rw [h] at this
  cases this
def Tryd.zeroCells48 : Array Value := (List.replicate 186 (Value.string ⟨#[]⟩)).toArray
@[simp] theorem Tryd.zeroValue48 (w : World) : (zeroValue 48).run Tryd.prog w = .ok (.agg Tryd.zeroCells48) w := by kernel_rfl
@[simp] theorem Tryd.zeroCells48_ne : Tryd.zeroCells48 ≠ #[] := fun h => by
  have : (Tryd.zeroCells48).size = 186 := by kernel_rfl
  rw [h] at this
  cases this
end Go.Proofs.YtndbbfbihheagaaDoor
