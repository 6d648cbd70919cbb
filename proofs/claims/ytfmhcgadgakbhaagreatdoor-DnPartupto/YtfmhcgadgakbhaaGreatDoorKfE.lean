import Derived.Test.YtfmhcgadgakbhaaGreatDoorBytes
import Derived.Test.YtfmhcgadgakbhaaGreatDoorChecked
import Derived.WalkKit
import Derived.LaidEql
import Derived.Stop.Asserts
import Derived.RowKitTokens
namespace Go.Proofs.YtfmhcgadgakbhaaGreatDoor
namespace Ke
open Go.RowKit Go.Extern.Stop Go.Stop Go.Extern
set_option linter.unusedVariables false
set_option linter.unusedSimpArgs false
set_option maxRecDepth 100000

abbrev esT : TypeId := 176
theorem isTypeOf (v : Value) (w : World) : (callFunc 90 #[.iface 176 v]).run Tryz.prog w = .ok (.value (.iface 152 (.agg #[.pointer (some ⟨13, 176, none⟩)]))) w := by kernel_rfl
theorem isComparable (w : World) : (callFunc 143 #[.agg #[.pointer (some ⟨13, 176, none⟩)]]).run Tryz.prog w = .ok (.value (.bool true)) w := by kernel_rfl
theorem mComparable (n : Nat) (v : Value) (w : World) : (Go.method (n + 1) 152 v "Comparable").run Tryz.prog w = .ok (143, v) w := by kernel_rfl
theorem mUnwrap (n : Nat) (v : Value) (w : World) : (Go.method (n + 1) 70 v "Unwrap").run Tryz.prog w = .ok (137, v) w := by kernel_rfl
theorem isComp : (Tryz.prog.info? 176).map (·.comparable) = some true := by kernel_rfl
theorem isSize : (Tryz.prog.info? 195).map (·.size) = some 1 := by kernel_rfl
theorem noIsE (v : Value) (xT : TypeId) (w : World) : (Instr.typeAssert (.iface 176 v) xT 164 true).run Tryz.prog w = .ok (.tuple #[.nilIface, .bool false]) w := run_typeAssert_lacksB Tryz.underlying164 (by kernel_rfl) (by kernel_rfl) v xT w
theorem noUnwrapE (v : Value) (xT : TypeId) (w : World) : (Instr.typeAssert (.iface 176 v) xT 159 true).run Tryz.prog w = .ok (.tuple #[.nilIface, .bool false]) w := run_typeAssert_lacksB Tryz.underlying159 (by kernel_rfl) (by kernel_rfl) v xT w
theorem noUnwrapsE (v : Value) (xT : TypeId) (w : World) : (Instr.typeAssert (.iface 176 v) xT 161 true).run Tryz.prog w = .ok (.tuple #[.nilIface, .bool false]) w := run_typeAssert_lacksB Tryz.underlying161 (by kernel_rfl) (by kernel_rfl) v xT w
theorem noIsW (v : Value) (xT : TypeId) (w : World) : (Instr.typeAssert (.iface 70 v) xT 164 true).run Tryz.prog w = .ok (.tuple #[.nilIface, .bool false]) w := run_typeAssert_lacksB Tryz.underlying164 (by kernel_rfl) (by kernel_rfl) v xT w
theorem hasUnwrapW (v : Value) (xT : TypeId) (w : World) : (Instr.typeAssert (.iface 70 v) xT 159 true).run Tryz.prog w = .ok (.tuple #[.iface 70 v, .bool true]) w := run_typeAssert_hasB Tryz.underlying159 (by kernel_rfl) v xT w

theorem unwrap_any (u : Value) (num : Int) (t : TypeId) (w : World) : Calls Tryz.prog 137 #[.agg #[.iface t u, .int .i64 num]] w fun e w' => e = .returned (.iface t u) ∧ w' = w.alloc (.cells #[.iface t u, .int .i64 num] 70) := by
  go_enter Tryz.func137, Tryz.ntmps137
  go_wp2
  go_ret
  exact ⟨rfl, rfl⟩

set_option maxHeartbeats 2000000 in
/-- errors.Is(r, x), r a refusal whose reason is x itself: one Unwrap, then equal. -/
theorem is_same (b : Addr) (num : Int) (w : World) :
    Calls Tryz.prog 60 #[.iface 70 (.agg #[.iface 176 (.pointer (some b)), .int .i64 num]), .iface 176 (.pointer (some b))] w fun e w' => e = .returned (.bool true) ∧ Below w.heap.size w w' := by
  obtain ⟨i, hi, hcmp⟩ := Option.map_eq_some_iff.1 isComp
  obtain ⟨j, hj, hjs⟩ := Option.map_eq_some_iff.1 isSize
  have tT := isTypeOf
  have mC := mComparable
  have mU := mUnwrap
  have cT := isComparable
  have nE := noIsE
  have uE := noUnwrapE
  have vE := noUnwrapsE
  have nW := noIsW
  have uW := hasUnwrapW
  have hty := fun w => run_eql_iface_types (P := Tryz.prog) 70 176 (.agg #[.iface 176 (.pointer (some b)), .int .i64 num]) (.pointer (some b)) Tryz.underlying27 (by decide) w
  have heq := fun w => run_eql_iface_ptr_same (P := Tryz.prog) w b Tryz.underlying27 Tryz.underlying176 hi hcmp hj
  go_enter Tryz.func60, Tryz.ntmps60
  go_wp2_with go_in
  refine wp_loop_rounds 2 ?_
  rw [rounds_succ]
  go_wp2_with (go_at_call 137; refine (unwrap_any _ _ _ _).mono ?_; rintro e w' ⟨rfl, rfl⟩)
  rw [rounds_succ]
  go_wp2
  go_ret
  exact ⟨rfl, (Below.refl _ _).alloc (Nat.le_refl _) _⟩
set_option maxHeartbeats 2000000 in
/-- errors.Is(r, x), r a refusal with another reason. -/
theorem is_other (a b : Addr) (num : Int) (ca cb : Array Value) (ta tb : TypeId) (w : World) (hne : a ≠ b) (ha : w.heap[a.block]? = some (.cells ca ta (0, 0))) (hb : w.heap[b.block]? = some (.cells cb tb (0, 0))) :
    Calls Tryz.prog 60 #[.iface 70 (.agg #[.iface 176 (.pointer (some a)), .int .i64 num]), .iface 176 (.pointer (some b))] w fun e w' => e = .returned (.bool false) ∧ Below w.heap.size w w' := by
  obtain ⟨i, hi, hcmp⟩ := Option.map_eq_some_iff.1 isComp
  obtain ⟨j, hj, hjs⟩ := Option.map_eq_some_iff.1 isSize
  have tT := isTypeOf
  have mC := mComparable
  have mU := mUnwrap
  have cT := isComparable
  have nE := noIsE
  have uE := noUnwrapE
  have vE := noUnwrapsE
  have nW := noIsW
  have uW := hasUnwrapW
  have hty := fun w => run_eql_iface_types (P := Tryz.prog) 70 176 (.agg #[.iface 176 (.pointer (some a)), .int .i64 num]) (.pointer (some b)) Tryz.underlying27 (by decide) w
  have hb1 : Below w.heap.size w (w.alloc (.cells #[.iface 176 (.pointer (some a)), .int .i64 num] 70)) := (Below.refl _ _).alloc (Nat.le_refl _) _
  have heq := run_eql_iface_ptr_other (P := Tryz.prog) (w.alloc (.cells #[.iface 176 (.pointer (some a)), .int .i64 num] 70)) Tryz.underlying27 Tryz.underlying176 hi hcmp hj (by rw [hjs]; decide) hne (by rw [hb1.block _ (Array.getElem?_eq_some_iff.1 ha).1]; exact ha) (by rw [hb1.block _ (Array.getElem?_eq_some_iff.1 hb).1]; exact hb)
  clear hb1
  go_enter Tryz.func60, Tryz.ntmps60
  go_wp2_with go_in
  refine wp_loop_rounds 2 ?_
  rw [rounds_succ]
  go_wp2_with (go_at_call 137; refine (unwrap_any _ _ _ _).mono ?_; rintro e w' ⟨rfl, rfl⟩)
  rw [rounds_succ]
  go_wp2
  go_ret
  exact ⟨rfl, (Below.refl _ _).alloc (Nat.le_refl _) _⟩
end Ke
end Go.Proofs.YtfmhcgadgakbhaaGreatDoor
