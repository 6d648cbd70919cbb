import Derived.Test.YtohkmjaaigaemabGreatRows
import Derived.WalkKit
import Derived.Deep.WholeRow
import Derived.KernelRfl
namespace Go.Proofs.YtohkmjaaigaemabGreat
open Go.RowKit
set_option linter.unusedVariables false

/-- The syntax of any bytes, as an interface value. -/
abbrev octV : Value := .iface 67 (.agg #[])
theorem synOct (w : World) : Calls Tryz.prog 11 #[.int .i64 9] w fun e w' => e = .returned octV ∧ w' = w := by
  go_enter Tryz.func11, Tryz.ntmps11
  go_wp2_with fail
  go_ret
  exact ⟨rfl, rfl⟩
theorem octN_any (v : ByteArray) (w : World) : Calls Tryz.prog 113 #[.agg #[], .string v] w fun e w' => e = .returned (.tuple #[.string v, .bool true]) ∧ Below w.heap.size w w' := by
  have hB : Hid (Below w.heap.size w (w.alloc (.cells #[] 67))) := (Below.refl _ _).alloc (Nat.le_refl _) _
  go_enter Tryz.func113, Tryz.ntmps113
  go_wp2_with fail
  go_ret2
  exact ⟨rfl, hB.out⟩
theorem two_cells (w : World) (x y : Value) (s t : TypeId) : ((w.alloc (.cells #[x] s)).alloc (.cells #[y] t)).cell? ⟨w.heap.size, 0, none⟩ = some x ∧ ((w.alloc (.cells #[x] s)).alloc (.cells #[y] t)).cell? ⟨w.heap.size + 1, 0, none⟩ = some y ∧ Below w.heap.size w ((w.alloc (.cells #[x] s)).alloc (.cells #[y] t)) := by
  refine ⟨?_, ?_, ((Below.refl _ _).alloc (Nat.le_refl _) _).alloc (by simp) _⟩
  · simp [go_sem]
  · simp [go_sem]
theorem ofNormal_any (g : FuncId) (lb : Array Value) (w : World) : Calls Tryz.prog 17 #[octV, .func (.func g) #[] lb] w fun e w' => e = .returned (.func (.func 22) #[] #[.pointer (some ⟨w.heap.size, 0, none⟩), .pointer (some ⟨w.heap.size + 1, 0, none⟩)]) ∧ w'.cell? ⟨w.heap.size, 0, none⟩ = some octV ∧ w'.cell? ⟨w.heap.size + 1, 0, none⟩ = some (.func (.func g) #[] lb) ∧ Below w.heap.size w w' := by
  go_enter Tryz.func17, Tryz.ntmps17
  go_wp2_with fail
  go_ret
  exact ⟨rfl, two_cells w _ _ _ _⟩
end Go.Proofs.YtohkmjaaigaemabGreat
