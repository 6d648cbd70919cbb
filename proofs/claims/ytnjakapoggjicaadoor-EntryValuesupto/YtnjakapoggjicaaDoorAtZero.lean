import Derived.Test.YtnjakapoggjicaaDoorRows
import Derived.WalkKit
import Derived.KernelRfl
namespace Go.Proofs.YtnjakapoggjicaaDoor
open Go.RowKit
/-- The zero values of the table's arrays and of the book, as constants of their own. -/
def Tryd.zeroCells83 : Array Value := (List.replicate 108 (Value.string ⟨#[]⟩)).toArray
def Tryd.zeroCells85 : Array Value := (List.replicate 78 (Value.string ⟨#[]⟩)).toArray
def Tryd.zeroCells48 : Array Value := (List.replicate 186 (Value.string ⟨#[]⟩) ++ [Value.map none]).toArray
@[simp] theorem Tryd.zeroValue83 (w : World) : (zeroValue 83).run Tryd.prog w = .ok (.agg Tryd.zeroCells83) w := by kernel_rfl
@[simp] theorem Tryd.zeroValue85 (w : World) : (zeroValue 85).run Tryd.prog w = .ok (.agg Tryd.zeroCells85) w := by kernel_rfl
@[simp] theorem Tryd.zeroValue48 (w : World) : (zeroValue 48).run Tryd.prog w = .ok (.agg Tryd.zeroCells48) w := by kernel_rfl
@[simp] theorem Tryd.zeroCells83_ne : Tryd.zeroCells83 ≠ #[] := fun h => by
  have : (Tryd.zeroCells83).size = 108 := by kernel_rfl
  rw [h] at this
  cases this
@[simp] theorem Tryd.zeroCells85_ne : Tryd.zeroCells85 ≠ #[] := fun h => by
  have : (Tryd.zeroCells85).size = 78 := by kernel_rfl
  rw [h] at this
  cases this
@[simp] theorem Tryd.zeroCells48_ne : Tryd.zeroCells48 ≠ #[] := fun h => by
  have : (Tryd.zeroCells48).size = 187 := by kernel_rfl
  rw [h] at this
  cases this
def Tryd.zeroCells77 : Array Value := (List.replicate 186 (Value.string ⟨#[]⟩)).toArray
@[simp] theorem Tryd.zeroValue77 (w : World) : (zeroValue 77).run Tryd.prog w = .ok (.agg Tryd.zeroCells77) w := by kernel_rfl
@[simp] theorem Tryd.zeroCells77_ne : Tryd.zeroCells77 ≠ #[] := fun h => by
  have : (Tryd.zeroCells77).size = 186 := by kernel_rfl
  rw [h] at this
  cases this
end Go.Proofs.YtnjakapoggjicaaDoor
