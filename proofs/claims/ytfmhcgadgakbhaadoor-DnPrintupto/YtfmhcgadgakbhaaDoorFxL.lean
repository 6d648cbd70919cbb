import Derived.Test.YtfmhcgadgakbhaaDoorBytes
import Derived.Test.YtfmhcgadgakbhaaDoorChecked
import Derived.WalkKit
import Derived.LaidEql
import Derived.Stop.Asserts
import Derived.RowKitTokens
import Derived.Defers
import Derived.Recover
import Derived.Laws.Pointers
namespace Go.Proofs.YtfmhcgadgakbhaaDoor
namespace Ke
open Go.RowKit Go.Extern.Stop Go.Stop Go.Extern
set_option linter.unusedVariables false
set_option linter.unusedSimpArgs false
set_option maxRecDepth 100000

abbrev esT : TypeId := 142
theorem isTypeOf (v : Value) (w : World) : (callFunc 57 #[.iface 142 v]).run Tryd.prog w = .ok (.value (.iface 126 (.agg #[.pointer (some ⟨12, 142, none⟩)]))) w := by kernel_rfl
theorem isComparable (w : World) : (callFunc 101 #[.agg #[.pointer (some ⟨12, 142, none⟩)]]).run Tryd.prog w = .ok (.value (.bool true)) w := by kernel_rfl
theorem mComparable (n : Nat) (v : Value) (w : World) : (Go.method (n + 1) 126 v "Comparable").run Tryd.prog w = .ok (101, v) w := by kernel_rfl
theorem mUnwrap (n : Nat) (v : Value) (w : World) : (Go.method (n + 1) 50 v "Unwrap").run Tryd.prog w = .ok (95, v) w := by kernel_rfl
theorem isComp : (Tryd.prog.info? 142).map (·.comparable) = some true := by kernel_rfl
theorem isSize : (Tryd.prog.info? 161).map (·.size) = some 1 := by kernel_rfl
theorem noIsE (v : Value) (xT : TypeId) (w : World) : (Instr.typeAssert (.iface 142 v) xT 138 true).run Tryd.prog w = .ok (.tuple #[.nilIface, .bool false]) w := run_typeAssert_lacksB Tryd.underlying138 (by kernel_rfl) (by kernel_rfl) v xT w
theorem noUnwrapE (v : Value) (xT : TypeId) (w : World) : (Instr.typeAssert (.iface 142 v) xT 133 true).run Tryd.prog w = .ok (.tuple #[.nilIface, .bool false]) w := run_typeAssert_lacksB Tryd.underlying133 (by kernel_rfl) (by kernel_rfl) v xT w
theorem noUnwrapsE (v : Value) (xT : TypeId) (w : World) : (Instr.typeAssert (.iface 142 v) xT 135 true).run Tryd.prog w = .ok (.tuple #[.nilIface, .bool false]) w := run_typeAssert_lacksB Tryd.underlying135 (by kernel_rfl) (by kernel_rfl) v xT w
theorem noIsW (v : Value) (xT : TypeId) (w : World) : (Instr.typeAssert (.iface 50 v) xT 138 true).run Tryd.prog w = .ok (.tuple #[.nilIface, .bool false]) w := run_typeAssert_lacksB Tryd.underlying138 (by kernel_rfl) (by kernel_rfl) v xT w
theorem hasUnwrapW (v : Value) (xT : TypeId) (w : World) : (Instr.typeAssert (.iface 50 v) xT 133 true).run Tryd.prog w = .ok (.tuple #[.iface 50 v, .bool true]) w := run_typeAssert_hasB Tryd.underlying133 (by kernel_rfl) v xT w

theorem unwrap_any (u : Value) (num : Int) (t : TypeId) (w : World) : Calls Tryd.prog 95 #[.agg #[.iface t u, .int .i64 num]] w fun e w' => e = .returned (.iface t u) ∧ w' = w.alloc (.cells #[.iface t u, .int .i64 num] 50) := by
  go_enter Tryd.func95, Tryd.ntmps95
  go_wp2
  go_ret
  exact ⟨rfl, rfl⟩

set_option maxHeartbeats 2000000 in
/-- errors.Is(r, x), r a refusal whose reason is x itself: one Unwrap, then equal. -/
theorem is_same (b : Addr) (num : Int) (w : World) :
    Calls Tryd.prog 41 #[.iface 50 (.agg #[.iface 142 (.pointer (some b)), .int .i64 num]), .iface 142 (.pointer (some b))] w fun e w' => e = .returned (.bool true) ∧ Below w.heap.size w w' := by
  obtain ⟨i, hi, hcmp⟩ := Option.map_eq_some_iff.1 isComp
  obtain ⟨j, hj, hjs⟩ := Option.map_eq_some_iff.1 isSize
  have tT := isTypeOf
  have mC := mComparable
  have mU := mUnwrap
  have cT := isComparable
  have nE := noIsE
  have uE := noUnwrapE
  have vE := noUnwrapsE
  have nW := noIsW
  have uW := hasUnwrapW
  have hty := fun w => run_eql_iface_types (P := Tryd.prog) 50 142 (.agg #[.iface 142 (.pointer (some b)), .int .i64 num]) (.pointer (some b)) Tryd.underlying26 (by decide) w
  have heq := fun w => run_eql_iface_ptr_same (P := Tryd.prog) w b Tryd.underlying26 Tryd.underlying142 hi hcmp hj
  go_enter Tryd.func41, Tryd.ntmps41
  go_wp2_with go_in
  refine wp_loop_rounds 2 ?_
  rw [rounds_succ]
  go_wp2_with (go_at_call 95; refine (unwrap_any _ _ _ _).mono ?_; rintro e w' ⟨rfl, rfl⟩)
  rw [rounds_succ]
  go_wp2
  go_ret
  exact ⟨rfl, (Below.refl _ _).alloc (Nat.le_refl _) _⟩
set_option maxHeartbeats 2000000 in
/-- errors.Is(r, x), r a refusal with another reason. -/
theorem is_other (a b : Addr) (num : Int) (ca cb : Array Value) (ta tb : TypeId) (w : World) (hne : a ≠ b) (ha : w.heap[a.block]? = some (.cells ca ta (0, 0))) (hb : w.heap[b.block]? = some (.cells cb tb (0, 0))) :
    Calls Tryd.prog 41 #[.iface 50 (.agg #[.iface 142 (.pointer (some a)), .int .i64 num]), .iface 142 (.pointer (some b))] w fun e w' => e = .returned (.bool false) ∧ Below w.heap.size w w' := by
  obtain ⟨i, hi, hcmp⟩ := Option.map_eq_some_iff.1 isComp
  obtain ⟨j, hj, hjs⟩ := Option.map_eq_some_iff.1 isSize
  have tT := isTypeOf
  have mC := mComparable
  have mU := mUnwrap
  have cT := isComparable
  have nE := noIsE
  have uE := noUnwrapE
  have vE := noUnwrapsE
  have nW := noIsW
  have uW := hasUnwrapW
  have hty := fun w => run_eql_iface_types (P := Tryd.prog) 50 142 (.agg #[.iface 142 (.pointer (some a)), .int .i64 num]) (.pointer (some b)) Tryd.underlying26 (by decide) w
  have hb1 : Below w.heap.size w (w.alloc (.cells #[.iface 142 (.pointer (some a)), .int .i64 num] 50)) := (Below.refl _ _).alloc (Nat.le_refl _) _
  have heq := run_eql_iface_ptr_other (P := Tryd.prog) (w.alloc (.cells #[.iface 142 (.pointer (some a)), .int .i64 num] 50)) Tryd.underlying26 Tryd.underlying142 hi hcmp hj (by rw [hjs]; decide) hne (by rw [hb1.block _ (Array.getElem?_eq_some_iff.1 ha).1]; exact ha) (by rw [hb1.block _ (Array.getElem?_eq_some_iff.1 hb).1]; exact hb)
  clear hb1
  go_enter Tryd.func41, Tryd.ntmps41
  go_wp2_with go_in
  refine wp_loop_rounds 2 ?_
  rw [rounds_succ]
  go_wp2_with (go_at_call 95; refine (unwrap_any _ _ _ _).mono ?_; rintro e w' ⟨rfl, rfl⟩)
  rw [rounds_succ]
  go_wp2
  go_ret
  exact ⟨rfl, (Below.refl _ _).alloc (Nat.le_refl _) _⟩
end Ke
end Go.Proofs.YtfmhcgadgakbhaaDoor

namespace Go.Proofs.YtfmhcgadgakbhaaDoor
namespace Ke
open Go.RowKit Go.Extern.Stop Go.Stop Go.Extern
set_option linter.unusedVariables false
set_option linter.unusedSimpArgs false
set_option maxRecDepth 100000

theorem valueOfP (t : Addr) (w : World) : (callFunc 53 #[.iface 84 (.pointer (some t))]).run Tryd.prog w
    = .ok (.value (.agg #[.pointer (some ⟨12, 84, none⟩), .pointer (some ⟨w.heap.size, 0, none⟩), .int .u64 150])) (w.alloc (.cells #[.pointer (some t)] 84)) := by kernel_rfl
theorem typeP (a : Addr) (w : World) : (callFunc 54 #[.agg #[.pointer (some ⟨12, 84, none⟩), .pointer (some a), .int .u64 150]]).run Tryd.prog w
    = .ok (.value (.iface 126 (.agg #[.pointer (some ⟨12, 84, none⟩)]))) w := by kernel_rfl
theorem mKind (n : Nat) (h : Value) (w : World) : (Go.method (n + 1) 126 (.agg #[h]) "Kind").run Tryd.prog w = .ok (90, h) w := by kernel_rfl
theorem mElem (n : Nat) (h : Value) (w : World) : (Go.method (n + 1) 126 (.agg #[h]) "Elem").run Tryd.prog w = .ok (102, .agg #[h]) w := by kernel_rfl
theorem mImplements (n : Nat) (h : Value) (w : World) : (Go.method (n + 1) 126 (.agg #[h]) "Implements").run Tryd.prog w = .ok (103, .agg #[h]) w := by kernel_rfl
theorem mAssignable (n : Nat) (h : Value) (w : World) : (Go.method (n + 1) 126 (.agg #[h]) "AssignableTo").run Tryd.prog w = .ok (100, .agg #[h]) w := by kernel_rfl
theorem kindP (w : World) : (callFunc 90 #[.pointer (some ⟨12, 84, none⟩)]).run Tryd.prog w = .ok (.value (.int .u8 22)) w := by kernel_rfl
theorem kindR (w : World) : (callFunc 90 #[.pointer (some ⟨12, 50, none⟩)]).run Tryd.prog w = .ok (.value (.int .u8 25)) w := by kernel_rfl
theorem elemP (w : World) : (callFunc 102 #[.agg #[.pointer (some ⟨12, 84, none⟩)]]).run Tryd.prog w = .ok (.value (.iface 126 (.agg #[.pointer (some ⟨12, 50, none⟩)]))) w := by kernel_rfl
theorem implementsR (w : World) : (callFunc 103 #[.agg #[.pointer (some ⟨12, 50, none⟩)], .iface 126 (.agg #[.pointer (some ⟨12, 26, none⟩)])]).run Tryd.prog w = .ok (.value (.bool true)) w := by kernel_rfl
theorem typeOfR (v : Value) (w : World) : (callFunc 57 #[.iface 50 v]).run Tryd.prog w = .ok (.value (.iface 126 (.agg #[.pointer (some ⟨12, 50, none⟩)]))) w := by kernel_rfl
theorem assignableR (w : World) : (callFunc 100 #[.agg #[.pointer (some ⟨12, 50, none⟩)], .iface 126 (.agg #[.pointer (some ⟨12, 50, none⟩)])]).run Tryd.prog w = .ok (.value (.bool true)) w := by kernel_rfl
theorem valueOfR (t : TypeId) (u : Value) (num : Int) (w : World) : (callFunc 53 #[.iface 50 (.agg #[.iface t u, .int .i64 num])]).run Tryd.prog w
    = .ok (.value (.agg #[.pointer (some ⟨12, 50, none⟩), .pointer (some ⟨w.heap.size, 0, none⟩), .int .u64 153])) (w.alloc (.cells #[.iface t u, .int .i64 num] 50)) := by kernel_rfl

theorem rlm (z : Sem Value) (f : TypeId → Addr → Nat → Nat → Sem Value) (v : Value) :
    ReflectliteValue.method z f #[v] = (do match ← ReflectliteValue.parts v with | none => z | some (t, a, fl) => f t a fl (fl % 32)) := rfl
theorem partsP (a : Addr) (w : World) : (ReflectliteValue.parts (.agg #[.pointer (some ⟨12, 84, none⟩), .pointer (some a), .int .u64 150])).run Tryd.prog w = .ok (some (84, a, 150)) w := by kernel_rfl
theorem isNilP (a p : Addr) (W : World) (ha : W.cell? a = some (.pointer (some p))) :
    (callFunc 55 #[.agg #[.pointer (some ⟨12, 84, none⟩), .pointer (some a), .int .u64 150]]).run Tryd.prog W = .ok (.value (.bool false)) W := by
  have h8 := @run_callFunc_extern Tryd.prog 55 _ (ReflectliteValue.method (ReflectliteValue.valueError "reflectlite.Value.IsNil" 0) ReflectliteValue.isNil) Tryd.func55 (by kernel_rfl) (by kernel_rfl) (by kernel_rfl) (by kernel_rfl)
  rw [h8, rlm]
  simp only [Sem.run_bind, partsP, Result.andThen]
  simp [ReflectliteValue.isNil, loadVar, isAgg, underlying, Tryd.underlying84, ha, Result.andThen]
theorem elemOfP (w : World) : (Rtype.elem? 84).run Tryd.prog w = .ok (some 50) w := by kernel_rfl
theorem mkR (p : Addr) (w : World) : (ReflectliteValue.mk 50 p ReflectliteValue.flagAddr).run Tryd.prog w = .ok (.agg #[.pointer (some ⟨12, 50, none⟩), .pointer (some p), .int .u64 409]) w := by kernel_rfl
theorem elemVP (a p : Addr) (W : World) (ha : W.cell? a = some (.pointer (some p))) :
    (callFunc 72 #[.agg #[.pointer (some ⟨12, 84, none⟩), .pointer (some a), .int .u64 150]]).run Tryd.prog W
      = .ok (.value (.agg #[.pointer (some ⟨12, 50, none⟩), .pointer (some p), .int .u64 409])) W := by
  have h8 := @run_callFunc_extern Tryd.prog 72 _ (ReflectliteValue.method (ReflectliteValue.valueError "reflectlite.Value.Elem" 0) ReflectliteValue.elem) Tryd.func72 (by kernel_rfl) (by kernel_rfl) (by kernel_rfl) (by kernel_rfl)
  rw [h8, rlm]
  simp only [Sem.run_bind, partsP, Result.andThen]
  simp [ReflectliteValue.elem, loadVar, isAgg, underlying, Tryd.underlying84, ha, Result.andThen, elemOfP, mkR]
theorem rls (v x : Value) : ReflectliteValue.set #[v, x] = (do
    let (some (dst, a, fl), some (src, b, _)) := (← ReflectliteValue.parts v, ← ReflectliteValue.parts x)
      | unsupported (.noEntry "extern/(internal/reflectlite.Value).Set.zeroValue")
    if fl / ReflectliteValue.flagAddr % 2 == 0 then unsupported (.noEntry "extern/(internal/reflectlite.Value).Set.unaddressable")
    let val ← loadVar src b
    if ← Rtype.directlyAssignable dst src then storeVar dst a val
    else if ← Rtype.implements dst src then
      if (← Rtype.kind src) == 20 then
        match val with
        | .nilIface => unsupported (.noEntry "extern/reflectlite: a nil value of one interface type handed on as a value of another")
        | _ => storeVar dst a val
      else storeVar dst a (.iface src val)
    else panicString ("reflectlite.Set: value of type " ++ (← Rtype.spelt src) ++ " is not assignable to type " ++ (← Rtype.spelt dst))
    pure (.tuple #[])) := rfl
theorem partsRa (a : Addr) (w : World) : (ReflectliteValue.parts (.agg #[.pointer (some ⟨12, 50, none⟩), .pointer (some a), .int .u64 409])).run Tryd.prog w = .ok (some (50, a, 409)) w := by kernel_rfl
theorem partsR (a : Addr) (w : World) : (ReflectliteValue.parts (.agg #[.pointer (some ⟨12, 50, none⟩), .pointer (some a), .int .u64 153])).run Tryd.prog w = .ok (some (50, a, 153)) w := by kernel_rfl
theorem directR (w : World) : (Rtype.directlyAssignable 50 50).run Tryd.prog w = .ok true w := by kernel_rfl
theorem setR (tb b : Nat) (t : TypeId) (u o0 o1 : Value) (num : Int) (W : World) (h0 : W.cell? ⟨b, 0, none⟩ = some (.iface t u)) (h1 : W.cell? ⟨b, 1, none⟩ = some (.int .i64 num)) (t0 : W.cell? ⟨tb, 0, none⟩ = some o0) (t1 : W.cell? ⟨tb, 1, none⟩ = some o1) (f0 : W.frozen? ⟨tb, 0, none⟩ = false) (f1 : W.frozen? ⟨tb, 1, none⟩ = false) :
    (callFunc 73 #[.agg #[.pointer (some ⟨12, 50, none⟩), .pointer (some ⟨tb, 0, none⟩), .int .u64 409], .agg #[.pointer (some ⟨12, 50, none⟩), .pointer (some ⟨b, 0, none⟩), .int .u64 153]]).run Tryd.prog W
      = .ok (.value (.tuple #[])) ((W.setCell ⟨tb, 0, none⟩ (.iface t u)).setCell ⟨tb, 1, none⟩ (.int .i64 num)) := by
  have h8 := @run_callFunc_extern Tryd.prog 73 _ ReflectliteValue.set Tryd.func73 (by kernel_rfl) (by kernel_rfl) (by kernel_rfl) (by kernel_rfl)
  rw [h8, rls]
  simp only [Sem.run_bind, partsRa, partsR, Result.andThen]
  have hl : (loadVar 50 ⟨b, 0, none⟩).run Tryd.prog W = .ok (.agg #[.iface t u, .int .i64 num]) W := by
    simp [loadVar, go_sem, h0, h1, Result.andThen]
  have hs : (storeVar 50 ⟨tb, 0, none⟩ (.agg #[.iface t u, .int .i64 num])).run Tryd.prog W = .ok () ((W.setCell ⟨tb, 0, none⟩ (.iface t u)).setCell ⟨tb, 1, none⟩ (.int .i64 num)) := by
    simp [storeVar, go_sem, t0, t1, f0, f1, Result.andThen]
  simp [ReflectliteValue.flagAddr, hl, directR, hs, Result.andThen]
end Ke
end Go.Proofs.YtfmhcgadgakbhaaDoor

namespace Go.Proofs.YtfmhcgadgakbhaaDoor
namespace Ke
open Go.RowKit Go.Extern.Stop Go.Stop Go.Extern
set_option linter.unusedVariables false
set_option linter.unusedSimpArgs false
set_option maxRecDepth 100000

/-- errors' own variable errorType. -/
def ErrT (W : World) : Prop := W.cell? ⟨10, 0, none⟩ = some (.iface 126 (.agg #[.pointer (some ⟨12, 26, none⟩)]))
set_option maxHeartbeats 4000000 in
theorem as_hit (tb : Nat) (t : TypeId) (u o0 o1 : Value) (num : Int) (w : World) (hg : ErrT w) (ht0 : w.heap[tb]? = some (.cells #[o0, o1] 50 (0, 0))) :
    Calls Tryd.prog 40 #[.iface 50 (.agg #[.iface t u, .int .i64 num]), .iface 84 (.pointer (some ⟨tb, 0, none⟩))] w fun e w' => e = .returned (.bool true) ∧ ∃ w1, Below w.heap.size w w1 ∧ w1.heap[tb]? = some (.cells #[o0, o1] 50 (0, 0)) ∧ w' = (w1.setCell ⟨tb, 0, none⟩ (.iface t u)).setCell ⟨tb, 1, none⟩ (.int .i64 num) := by
  obtain ⟨W1, hW1⟩ : ∃ W1, w.alloc (.cells #[.pointer (some ⟨tb, 0, none⟩)] 84) = W1 := ⟨_, rfl⟩
  obtain ⟨W2, hW2⟩ : ∃ W2, W1.alloc (.cells #[.pointer (some ⟨12, 84, none⟩), .pointer (some ⟨w.heap.size, 0, none⟩), .int .u64 150] 101) = W2 := ⟨_, rfl⟩
  obtain ⟨W3, hW3⟩ : ∃ W3, W2.alloc (.cells #[.pointer (some ⟨12, 84, none⟩), .pointer (some ⟨w.heap.size, 0, none⟩), .int .u64 150] 101) = W3 := ⟨_, rfl⟩
  obtain ⟨W4, hW4⟩ : ∃ W4, W3.alloc (.cells #[.iface t u, .int .i64 num] 50) = W4 := ⟨_, rfl⟩
  have b1 : Below w.heap.size w W1 := by rw [← hW1]; exact (Below.refl _ _).alloc (Nat.le_refl _) _
  have b2 : Below W1.heap.size W1 W2 := by rw [← hW2]; exact (Below.refl _ _).alloc (Nat.le_refl _) _
  have b3 : Below W2.heap.size W2 W3 := by rw [← hW3]; exact (Below.refl _ _).alloc (Nat.le_refl _) _
  have b4 : Below W3.heap.size W3 W4 := by rw [← hW4]; exact (Below.refl _ _).alloc (Nat.le_refl _) _
  have v1 : W1.cell? ⟨w.heap.size, 0, none⟩ = some (.pointer (some ⟨tb, 0, none⟩)) := by rw [← hW1]; exact cell_one_new _ _ _ 0 _ rfl
  have v2 : W2.cell? ⟨w.heap.size, 0, none⟩ = some (.pointer (some ⟨tb, 0, none⟩)) := (b2.cell (World.block_lt_of_cell? _ _ v1)).trans v1
  have v3 : W3.cell? ⟨w.heap.size, 0, none⟩ = some (.pointer (some ⟨tb, 0, none⟩)) := (b3.cell (World.block_lt_of_cell? _ _ v2)).trans v2
  have x2 : W2.heap[W1.heap.size]? = some (.cells #[.pointer (some ⟨12, 84, none⟩), .pointer (some ⟨w.heap.size, 0, none⟩), .int .u64 150] 101 (0, 0)) := by rw [← hW2]; exact heap_alloc_new _ _
  have x3 : W3.heap[W2.heap.size]? = some (.cells #[.pointer (some ⟨12, 84, none⟩), .pointer (some ⟨w.heap.size, 0, none⟩), .int .u64 150] 101 (0, 0)) := by rw [← hW3]; exact heap_alloc_new _ _
  have q0 : W2.cell? ⟨W1.heap.size, 0, none⟩ = some (.pointer (some ⟨12, 84, none⟩)) := by rw [cell_of_row _ _ _ _ _ _ x2]; rfl
  have q1 : W2.cell? ⟨W1.heap.size, 1, none⟩ = some (.pointer (some ⟨w.heap.size, 0, none⟩)) := by rw [cell_of_row _ _ _ _ _ _ x2]; rfl
  have q2 : W2.cell? ⟨W1.heap.size, 2, none⟩ = some (.int .u64 150) := by rw [cell_of_row _ _ _ _ _ _ x2]; rfl
  have r0 : W3.cell? ⟨W2.heap.size, 0, none⟩ = some (.pointer (some ⟨12, 84, none⟩)) := by rw [cell_of_row _ _ _ _ _ _ x3]; rfl
  have r1 : W3.cell? ⟨W2.heap.size, 1, none⟩ = some (.pointer (some ⟨w.heap.size, 0, none⟩)) := by rw [cell_of_row _ _ _ _ _ _ x3]; rfl
  have r2 : W3.cell? ⟨W2.heap.size, 2, none⟩ = some (.int .u64 150) := by rw [cell_of_row _ _ _ _ _ _ x3]; rfl
  have g2 : W2.cell? ⟨10, 0, none⟩ = some (.iface 126 (.agg #[.pointer (some ⟨12, 26, none⟩)])) := by
    have h1 := (b1.cell (World.block_lt_of_cell? _ _ hg)).trans hg
    exact (b2.cell (World.block_lt_of_cell? _ _ h1)).trans h1
  have b04 : Below w.heap.size w W4 := b1.trans ((b2.mono b1.size).trans ((b3.mono (Nat.le_trans b1.size b2.size)).trans (b4.mono (Nat.le_trans b1.size (Nat.le_trans b2.size b3.size)))))
  have hx4 : W4.heap[tb]? = some (.cells #[o0, o1] 50 (0, 0)) := by rw [b04.block _ (Array.getElem?_eq_some_iff.1 ht0).1]; exact ht0
  have hn4 : W4.heap[W3.heap.size]? = some (.cells #[.iface t u, .int .i64 num] 50 (0, 0)) := by rw [← hW4]; exact heap_alloc_new _ _
  have st := setR tb W3.heap.size t u o0 o1 num W4 (by rw [cell_of_row _ _ _ _ _ _ hn4]; rfl) (by rw [cell_of_row _ _ _ _ _ _ hn4]; rfl) (by rw [cell_of_row _ _ _ _ _ _ hx4]; rfl) (by rw [cell_of_row _ _ _ _ _ _ hx4]; rfl) (Go.frozen_of_row _ _ _ _ _ hx4) (Go.frozen_of_row _ _ _ _ _ hx4)
  have el := elemVP ⟨w.heap.size, 0, none⟩ ⟨tb, 0, none⟩ W3 v3
  have n8 := isNilP ⟨w.heap.size, 0, none⟩ ⟨tb, 0, none⟩ W2 v2
  have vR := valueOfR t u num W3
  rw [hW4] at vR
  have vP := valueOfP ⟨tb, 0, none⟩ w
  rw [hW1] at vP
  have f2 := typeP
  have f3 := mKind
  have f4 := mElem
  have f5 := mImplements
  have f6 := mAssignable
  have f7 := kindP
  have f8 := kindR
  have f9 := elemP
  have f10 := implementsR
  have f11 := typeOfR
  have f12 := assignableR
  have hfin : Hid (∃ w1, Below w.heap.size w w1 ∧ w1.heap[tb]? = some (.cells #[o0, o1] 50 (0, 0)) ∧ (W4.setCell ⟨tb, 0, none⟩ (.iface t u)).setCell ⟨tb, 1, none⟩ (.int .i64 num) = (w1.setCell ⟨tb, 0, none⟩ (.iface t u)).setCell ⟨tb, 1, none⟩ (.int .i64 num)) := ⟨W4, b04, hx4, rfl⟩
  clear b1 b2 b3 b4 b04 hx4 hn4 v1 hW1 hW4 ht0 hg x2 x3
  go_enter Tryd.func40, Tryd.ntmps40
  go_wp2
  refine wp_loop_rounds 1 ?_
  rw [rounds_succ]
  go_wp2
  go_ret
  exact ⟨rfl, hfin.out⟩
end Ke
end Go.Proofs.YtfmhcgadgakbhaaDoor

namespace Go.Proofs.YtfmhcgadgakbhaaDoor
namespace Ke
open Go.RowKit Go.Extern.Stop Go.Stop Go.Extern
set_option linter.unusedVariables false
set_option linter.unusedSimpArgs false
set_option maxRecDepth 100000

set_option maxHeartbeats 1000000 in
theorem find1_idle (p q : Value) (w : World) : CallsD Tryd.prog 39 #[p, q] .returning w fun e u' w' => e = .returned (.tuple #[]) ∧ u' = .returning ∧ w' = w := by
  refine callsD_of_wpS Tryd.func39 rfl fun c₀ cs hu => ?_
  apply wpS_seq
  apply wpS_region
  simp [wpOpsS, go_sem, recoverD, hu, Tryd.ntmps39]
  show Code.wpS _ _ _ _ _ _
  refine wpS_cond (t := false) (by rfl) ?_
  rw [if_neg (by decide)]
  refine wpS_of_wp ?_
  refine wp_skip ?_
  cases c₀
  simp_all [go_sem, bodyPostS, results, Tryd.results39]

set_option maxHeartbeats 4000000 in
theorem find_any (t : TypeId) (u : Value) (num : Int) (w : World) (hg : ErrT w) :
    Calls Tryd.prog 26 #[.iface 50 (.agg #[.iface t u, .int .i64 num])] w fun e w' => e = .returned (.tuple #[.agg #[.iface t u, .int .i64 num], .bool true]) ∧ Below w.heap.size w w' := by
  obtain ⟨W1, hW1⟩ : ∃ W1, w.alloc (.cells #[.nilIface, .int .i64 0] 50) = W1 := ⟨_, rfl⟩
  obtain ⟨W2, hW2⟩ : ∃ W2, W1.alloc (.cells #[.bool false] 4) = W2 := ⟨_, rfl⟩
  have b1 : Below w.heap.size w W1 := by rw [← hW1]; exact (Below.refl _ _).alloc (Nat.le_refl _) _
  have b2 : Below W1.heap.size W1 W2 := by rw [← hW2]; exact (Below.refl _ _).alloc (Nat.le_refl _) _
  have x1 : W1.heap[w.heap.size]? = some (.cells #[.nilIface, .int .i64 0] 50 (0, 0)) := by rw [← hW1]; exact heap_alloc_new _ _
  have x2 : W2.heap[w.heap.size]? = some (.cells #[.nilIface, .int .i64 0] 50 (0, 0)) := by rw [b2.block _ (Array.getElem?_eq_some_iff.1 x1).1]; exact x1
  have y2 : W2.heap[W1.heap.size]? = some (.cells #[.bool false] 4 (0, 0)) := by rw [← hW2]; exact heap_alloc_new _ _
  have hg2 : ErrT W2 := by
    have h1 := (b1.cell (World.block_lt_of_cell? _ _ hg)).trans hg
    exact (b2.cell (World.block_lt_of_cell? _ _ h1)).trans h1
  have hA : Hid (Calls Tryd.prog 40 #[.iface 50 (.agg #[.iface t u, .int .i64 num]), .iface 84 (.pointer (some ⟨w.heap.size, 0, none⟩))] W2 fun e w' => e = .returned (.bool true) ∧ ∃ w1, Below W2.heap.size W2 w1 ∧ w1.heap[w.heap.size]? = some (.cells #[.nilIface, .int .i64 0] 50 (0, 0)) ∧ w' = (w1.setCell ⟨w.heap.size, 0, none⟩ (.iface t u)).setCell ⟨w.heap.size, 1, none⟩ (.int .i64 num)) := as_hit w.heap.size t u _ _ num W2 hg2 x2
  have hmf : ∀ (fn : Fn) (first cap : Array Value) (w : World), (Instr.makeFunc fn first cap).run Tryd.prog w = .ok (.func fn first cap) w := fun _ _ _ _ => rfl
  have hlt1 : w.heap.size < W1.heap.size := (Array.getElem?_eq_some_iff.1 x1).1
  have hB2 : Hid (Below w.heap.size w W2 ∧ W1.heap.size < W2.heap.size) := ⟨b1.trans (b2.mono b1.size), (Array.getElem?_eq_some_iff.1 y2).1⟩
  have y2' : Hid (W2.heap[W1.heap.size]? = some (.cells #[.bool false] 4 (0, 0))) := y2
  have hlt1' : Hid (w.heap.size < W1.heap.size) := hlt1
  clear b1 b2 x1 x2 hg2 hg hlt1 y2
  go_enter_defers Tryd.func26, Tryd.ntmps26
  go_wp2_with fail
  refine hA.out.mono ?_
  rintro e w' ⟨rfl, w1, hb1, hx, rfl⟩
  obtain ⟨W3, hW3⟩ : ∃ W3, (w1.setCell ⟨w.heap.size, 0, none⟩ (.iface t u)).setCell ⟨w.heap.size, 1, none⟩ (.int .i64 num) = W3 := ⟨_, rfl⟩
  have hs3 : W3.heap.size = w1.heap.size := by rw [← hW3]; simp only [World.size_setCell]
  have h3 : W3.heap[w.heap.size]? = some (.cells #[.iface t u, .int .i64 num] 50 (0, 0)) := by
    have e1 := Go.heap_setCell_same w1 w.heap.size 0 _ _ (.iface t u) hx
    have e2 := Go.heap_setCell_same _ w.heap.size 1 _ _ (.int .i64 num) e1
    rw [← hW3, e2]
    rfl
  have hB3 : Hid (Below w.heap.size w W3) := by
    have h1 : Below w.heap.size w w1 := hB2.out.1.trans (hb1.mono hB2.out.1.size)
    rw [← hW3]
    exact (h1.setCell (p := ⟨w.heap.size, 0, none⟩) (Nat.le_refl _) _).setCell (p := ⟨w.heap.size, 1, none⟩) (Nat.le_refl _) _
  have k3 : W3.heap[W1.heap.size]? = some (.cells #[.bool false] 4 (0, 0)) := by
    have hne : W1.heap.size ≠ w.heap.size := by have := hlt1'.out; omega
    rw [← hW3, Below.heap_setCell _ _ _ _ hne, Below.heap_setCell _ _ _ _ hne, hb1.block _ hB2.out.2]
    exact y2'.out
  have a0 : W3.cell? ⟨W1.heap.size, 0, none⟩ = some (.bool false) := by rw [cell_of_row _ _ _ _ _ _ k3]; rfl
  have z0 : W3.frozen? ⟨W1.heap.size, 0, none⟩ = false := Go.frozen_of_row _ _ _ _ _ k3
  obtain ⟨W4, hW4⟩ : ∃ W4, W3.setCell ⟨W1.heap.size, 0, none⟩ (.bool true) = W4 := ⟨_, rfl⟩
  have h4 : W4.heap[w.heap.size]? = some (.cells #[.iface t u, .int .i64 num] 50 (0, 0)) := by
    rw [← hW4, Below.heap_setCell _ _ _ _ (by have := hlt1'.out; show w.heap.size ≠ W1.heap.size; omega)]
    exact h3
  have k4 : W4.heap[W1.heap.size]? = some (.cells #[.bool true] 4 (0, 0)) := by
    rw [← hW4, Go.heap_setCell_same _ _ 0 _ _ _ k3]
    rfl
  have hB4 : Hid (Below w.heap.size w W4) := by
    rw [← hW4]
    exact hB3.out.setCell (p := ⟨W1.heap.size, 0, none⟩) (Nat.le_of_lt hlt1'.out) _
  have d0 : W4.cell? ⟨w.heap.size, 0, none⟩ = some (.iface t u) := by rw [cell_of_row _ _ _ _ _ _ h4]; rfl
  have d1 : W4.cell? ⟨w.heap.size, 1, none⟩ = some (.int .i64 num) := by rw [cell_of_row _ _ _ _ _ _ h4]; rfl
  have d2 : W4.cell? ⟨W1.heap.size, 0, none⟩ = some (.bool true) := by rw [cell_of_row _ _ _ _ _ _ k4]; rfl
  have z1 : W4.frozen? ⟨w.heap.size, 0, none⟩ = false := Go.frozen_of_row _ _ _ _ _ h4
  have z2 : W4.frozen? ⟨w.heap.size, 1, none⟩ = false := Go.frozen_of_row _ _ _ _ _ h4
  have z3 : W4.frozen? ⟨W1.heap.size, 0, none⟩ = false := Go.frozen_of_row _ _ _ _ _ k4
  have hne : W1.heap.size ≠ w.heap.size := by have := hlt1'.out; omega
  have e1 : (W4.setCell ⟨w.heap.size, 0, none⟩ (.iface t u)).cell? ⟨W1.heap.size, 0, none⟩ = some (.bool true) := by
    rw [← d2]; unfold World.cell?; rw [Below.heap_setCell _ _ _ _ hne]
  obtain ⟨W5, hW5⟩ : ∃ W5, ((W4.setCell ⟨w.heap.size, 0, none⟩ (.iface t u)).setCell ⟨w.heap.size, 1, none⟩ (.int .i64 num)).setCell ⟨W1.heap.size, 0, none⟩ (.bool true) = W5 := ⟨_, rfl⟩
  have h5 : W5.heap[w.heap.size]? = some (.cells #[.iface t u, .int .i64 num] 50 (0, 0)) := by
    have q1 := Go.heap_setCell_same W4 w.heap.size 0 _ _ (.iface t u) h4
    have q2 := Go.heap_setCell_same _ w.heap.size 1 _ _ (.int .i64 num) q1
    rw [← hW5, Below.heap_setCell _ _ _ _ (fun e => hne e.symm), q2]
    rfl
  have k5 : W5.heap[W1.heap.size]? = some (.cells #[.bool true] 4 (0, 0)) := by
    have q1 : ((W4.setCell ⟨w.heap.size, 0, none⟩ (.iface t u)).setCell ⟨w.heap.size, 1, none⟩ (.int .i64 num)).heap[W1.heap.size]? = some (.cells #[.bool true] 4 (0, 0)) := by
      rw [Below.heap_setCell _ _ _ _ hne, Below.heap_setCell _ _ _ _ hne]
      exact k4
    rw [← hW5, Go.heap_setCell_same _ _ 0 _ _ _ q1]
    rfl
  have hB5 : Hid (Below w.heap.size w W5.drew) := by
    have q := ((hB4.out.setCell (p := ⟨w.heap.size, 0, none⟩) (Nat.le_refl _) (.iface t u)).setCell (p := ⟨w.heap.size, 1, none⟩) (Nat.le_refl _) (.int .i64 num)).setCell (p := ⟨W1.heap.size, 0, none⟩) (Nat.le_of_lt hlt1'.out) (.bool true)
    rw [hW5] at q
    exact q.trans ⟨rfl, rfl, rfl, Nat.le_refl _, fun _ _ => rfl⟩
  have m0 : W5.cell? ⟨w.heap.size, 0, none⟩ = some (.iface t u) := by rw [cell_of_row _ _ _ _ _ _ h5]; rfl
  have m1 : W5.cell? ⟨w.heap.size, 1, none⟩ = some (.int .i64 num) := by rw [cell_of_row _ _ _ _ _ _ h5]; rfl
  have m2 : W5.cell? ⟨W1.heap.size, 0, none⟩ = some (.bool true) := by rw [cell_of_row _ _ _ _ _ _ k5]; rfl
  clear hb1 hx hs3 h3 k3 hB3 hA hne h5 k5 h4 k4
  rw [hW3]
  go_wp2_with fail
  go_region
  go_wp2_with fail
  refine leaves_cons (f := 39) (args := #[.pointer (some ⟨w.heap.size, 0, none⟩), .pointer (some ⟨W1.heap.size, 0, none⟩)]) (by simp) (by simp [go_sem]) ?_
  refine (find1_idle _ _ _).mono ?_
  rintro e u' w'' ⟨rfl, rfl, rfl⟩
  simp [Leaves, settle, results, Tryd.results26, go_sem, m0, m1, m2]
  exact hB5.out
end Ke
end Go.Proofs.YtfmhcgadgakbhaaDoor
