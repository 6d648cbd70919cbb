import Derived.Test.YtjafeaadjolefaaGreatRows
import Derived.WalkKit
import Derived.Deep.WholeRow
import Derived.KernelRfl
namespace Go.Proofs.YtjafeaadjolefaaGreat
open Go.RowKit
set_option linter.unusedVariables false

/-- The syntax of any bytes, as an interface value. -/
abbrev octV : Value := .iface 50 (.agg #[])
theorem synOct (w : World) : Calls Tryz.prog 5 #[.int .i64 9] w fun e w' => e = .returned octV ∧ w' = w := by
  go_enter Tryz.func5, Tryz.ntmps5
  go_wp2_with fail
  go_ret
  exact ⟨rfl, rfl⟩
theorem octN_any (v : ByteArray) (w : World) : Calls Tryz.prog 97 #[.agg #[], .string v] w fun e w' => e = .returned (.tuple #[.string v, .bool true]) ∧ Below w.heap.size w w' := by
  have hB : Hid (Below w.heap.size w (w.alloc (.cells #[] 50))) := (Below.refl _ _).alloc (Nat.le_refl _) _
  go_enter Tryz.func97, Tryz.ntmps97
  go_wp2_with fail
  go_ret2
  exact ⟨rfl, hB.out⟩
theorem two_cells (w : World) (x y : Value) (s t : TypeId) : ((w.alloc (.cells #[x] s)).alloc (.cells #[y] t)).cell? ⟨w.heap.size, 0, none⟩ = some x ∧ ((w.alloc (.cells #[x] s)).alloc (.cells #[y] t)).cell? ⟨w.heap.size + 1, 0, none⟩ = some y ∧ Below w.heap.size w ((w.alloc (.cells #[x] s)).alloc (.cells #[y] t)) := by
  refine ⟨?_, ?_, ((Below.refl _ _).alloc (Nat.le_refl _) _).alloc (by simp) _⟩
  · simp [go_sem]
  · simp [go_sem]
end Go.Proofs.YtjafeaadjolefaaGreat
