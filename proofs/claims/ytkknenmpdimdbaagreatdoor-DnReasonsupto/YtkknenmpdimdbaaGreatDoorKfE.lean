import Derived.Test.YtkknenmpdimdbaaGreatDoorBytes
import Derived.Test.YtkknenmpdimdbaaGreatDoorChecked
import Derived.WalkKit
import Derived.LaidEql
import Derived.Stop.Asserts
import Derived.RowKitTokens
namespace Go.Proofs.YtkknenmpdimdbaaGreatDoor
namespace Ke
open Go.RowKit Go.Extern.Stop Go.Stop Go.Extern
set_option linter.unusedVariables false
set_option linter.unusedSimpArgs false
set_option maxRecDepth 100000
theorem isTypeOf (v : Value) (w : World) : (callFunc 67 #[.iface 256 v]).run Tryz.prog w = .ok (.value (.iface 155 (.agg #[.pointer (some ⟨13, 256, none⟩)]))) w := by kernel_rfl
theorem isComparable (w : World) : (callFunc 210 #[.agg #[.pointer (some ⟨13, 256, none⟩)]]).run Tryz.prog w = .ok (.value (.bool true)) w := by kernel_rfl
theorem mComparable (n : Nat) (v : Value) (w : World) : (Go.method (n + 1) 155 v "Comparable").run Tryz.prog w = .ok (210, v) w := by kernel_rfl
theorem mUnwrap (n : Nat) (v : Value) (w : World) : (Go.method (n + 1) 69 v "Unwrap").run Tryz.prog w = .ok (206, v) w := by kernel_rfl
theorem isComp : (Tryz.prog.info? 256).map (·.comparable) = some true := by kernel_rfl
theorem isSize : (Tryz.prog.info? 274).map (·.size) = some 1 := by kernel_rfl
theorem noIsE (v : Value) (xT : TypeId) (w : World) : (Instr.typeAssert (.iface 256 v) xT 157 true).run Tryz.prog w = .ok (.tuple #[.nilIface, .bool false]) w := run_typeAssert_lacksB Tryz.underlying157 (by kernel_rfl) (by kernel_rfl) v xT w
theorem noUnwrapE (v : Value) (xT : TypeId) (w : World) : (Instr.typeAssert (.iface 256 v) xT 160 true).run Tryz.prog w = .ok (.tuple #[.nilIface, .bool false]) w := run_typeAssert_lacksB Tryz.underlying160 (by kernel_rfl) (by kernel_rfl) v xT w
theorem noUnwrapsE (v : Value) (xT : TypeId) (w : World) : (Instr.typeAssert (.iface 256 v) xT 162 true).run Tryz.prog w = .ok (.tuple #[.nilIface, .bool false]) w := run_typeAssert_lacksB Tryz.underlying162 (by kernel_rfl) (by kernel_rfl) v xT w
theorem noIsW (v : Value) (xT : TypeId) (w : World) : (Instr.typeAssert (.iface 69 v) xT 157 true).run Tryz.prog w = .ok (.tuple #[.nilIface, .bool false]) w := run_typeAssert_lacksB Tryz.underlying157 (by kernel_rfl) (by kernel_rfl) v xT w
theorem hasUnwrapW (v : Value) (xT : TypeId) (w : World) : (Instr.typeAssert (.iface 69 v) xT 160 true).run Tryz.prog w = .ok (.tuple #[.iface 69 v, .bool true]) w := run_typeAssert_hasB Tryz.underlying160 (by kernel_rfl) v xT w
theorem unwrap_any (u : Value) (num : Int) (t : TypeId) (w : World) : Calls Tryz.prog 206 #[.agg #[.iface t u, .int .i64 num]] w fun e w' => e = .returned (.iface t u) ∧ w' = w.alloc (.cells #[.iface t u, .int .i64 num] 69) := by
 go_enter Tryz.func206, Tryz.ntmps206
 go_wp2
 go_ret
 exact ⟨rfl, rfl⟩
set_option maxHeartbeats 2000000 in
theorem is_same (b : Addr) (num : Int) (w : World) :
  Calls Tryz.prog 38 #[.iface 69 (.agg #[.iface 256 (.pointer (some b)), .int .i64 num]), .iface 256 (.pointer (some b))] w fun e w' => e = .returned (.bool true) ∧ Below w.heap.size w w' := by
 obtain ⟨i, hi, hcmp⟩ := Option.map_eq_some_iff.1 isComp
 obtain ⟨j, hj, hjs⟩ := Option.map_eq_some_iff.1 isSize
 have tT := isTypeOf
 have mC := mComparable
 have mU := mUnwrap
 have cT := isComparable
 have nE := noIsE
 have uE := noUnwrapE
 have vE := noUnwrapsE
 have nW := noIsW
 have uW := hasUnwrapW
 have hty := fun w => run_eql_iface_types (P := Tryz.prog) 69 256 (.agg #[.iface 256 (.pointer (some b)), .int .i64 num]) (.pointer (some b)) Tryz.underlying32 (by decide) w
 have heq := fun w => run_eql_iface_ptr_same (P := Tryz.prog) w b Tryz.underlying32 Tryz.underlying256 hi hcmp hj
 go_enter Tryz.func38, Tryz.ntmps38
 go_wp2_with go_in
 refine wp_loop_rounds 2 ?_
 rw [rounds_succ]
 go_wp2_with (go_at_call 206; refine (unwrap_any _ _ _ _).mono ?_; rintro e w' ⟨rfl, rfl⟩)
 rw [rounds_succ]
 go_wp2
 go_ret
 exact ⟨rfl, (Below.refl _ _).alloc (Nat.le_refl _) _⟩
set_option maxHeartbeats 2000000 in
theorem is_other (a b : Addr) (num : Int) (ca cb : Array Value) (ta tb : TypeId) (w : World) (hne : a ≠ b) (ha : w.heap[a.block]? = some (.cells ca ta (0, 0))) (hb : w.heap[b.block]? = some (.cells cb tb (0, 0))) :
  Calls Tryz.prog 38 #[.iface 69 (.agg #[.iface 256 (.pointer (some a)), .int .i64 num]), .iface 256 (.pointer (some b))] w fun e w' => e = .returned (.bool false) ∧ Below w.heap.size w w' := by
 obtain ⟨i, hi, hcmp⟩ := Option.map_eq_some_iff.1 isComp
 obtain ⟨j, hj, hjs⟩ := Option.map_eq_some_iff.1 isSize
 have tT := isTypeOf
 have mC := mComparable
 have mU := mUnwrap
 have cT := isComparable
 have nE := noIsE
 have uE := noUnwrapE
 have vE := noUnwrapsE
 have nW := noIsW
 have uW := hasUnwrapW
 have hty := fun w => run_eql_iface_types (P := Tryz.prog) 69 256 (.agg #[.iface 256 (.pointer (some a)), .int .i64 num]) (.pointer (some b)) Tryz.underlying32 (by decide) w
 have hb1 : Below w.heap.size w (w.alloc (.cells #[.iface 256 (.pointer (some a)), .int .i64 num] 69)) := (Below.refl _ _).alloc (Nat.le_refl _) _
 have heq := run_eql_iface_ptr_other (P := Tryz.prog) (w.alloc (.cells #[.iface 256 (.pointer (some a)), .int .i64 num] 69)) Tryz.underlying32 Tryz.underlying256 hi hcmp hj (by rw [hjs]; decide) hne (by rw [hb1.block _ (Array.getElem?_eq_some_iff.1 ha).1]; exact ha) (by rw [hb1.block _ (Array.getElem?_eq_some_iff.1 hb).1]; exact hb)
 clear hb1
 go_enter Tryz.func38, Tryz.ntmps38
 go_wp2_with go_in
 refine wp_loop_rounds 2 ?_
 rw [rounds_succ]
 go_wp2_with (go_at_call 206; refine (unwrap_any _ _ _ _).mono ?_; rintro e w' ⟨rfl, rfl⟩)
 rw [rounds_succ]
 go_wp2
 go_ret
 exact ⟨rfl, (Below.refl _ _).alloc (Nat.le_refl _) _⟩
end Ke
end Go.Proofs.YtkknenmpdimdbaaGreatDoor
