import Derived.Test.YtkknenmpdimdbaaGreatDoorKfE
namespace Go.Proofs.YtkknenmpdimdbaaGreatDoor
namespace Ke
open Go.RowKit Go.Extern.Stop Go.Stop Go.Extern
set_option linter.unusedVariables false
set_option linter.unusedSimpArgs false
set_option maxRecDepth 100000
theorem valueOfP (t : Addr) (w : World) : (callFunc 108 #[.iface 125 (.pointer (some t))]).run Tryz.prog w
  = .ok (.value (.agg #[.pointer (some ⟨13, 125, none⟩), .pointer (some ⟨w.heap.size, 0, none⟩), .int .u64 150])) (w.alloc (.cells #[.pointer (some t)] 125)) := by kernel_rfl
theorem typeP (a : Addr) (w : World) : (callFunc 109 #[.agg #[.pointer (some ⟨13, 125, none⟩), .pointer (some a), .int .u64 150]]).run Tryz.prog w
  = .ok (.value (.iface 155 (.agg #[.pointer (some ⟨13, 125, none⟩)]))) w := by kernel_rfl
theorem mKind (n : Nat) (h : Value) (w : World) : (Go.method (n + 1) 155 (.agg #[h]) "Kind").run Tryz.prog w = .ok (202, h) w := by kernel_rfl
theorem mElem (n : Nat) (h : Value) (w : World) : (Go.method (n + 1) 155 (.agg #[h]) "Elem").run Tryz.prog w = .ok (211, .agg #[h]) w := by kernel_rfl
theorem mImplements (n : Nat) (h : Value) (w : World) : (Go.method (n + 1) 155 (.agg #[h]) "Implements").run Tryz.prog w = .ok (212, .agg #[h]) w := by kernel_rfl
theorem mAssignable (n : Nat) (h : Value) (w : World) : (Go.method (n + 1) 155 (.agg #[h]) "AssignableTo").run Tryz.prog w = .ok (209, .agg #[h]) w := by kernel_rfl
theorem kindP (w : World) : (callFunc 202 #[.pointer (some ⟨13, 125, none⟩)]).run Tryz.prog w = .ok (.value (.int .u8 22)) w := by kernel_rfl
theorem kindR (w : World) : (callFunc 202 #[.pointer (some ⟨13, 69, none⟩)]).run Tryz.prog w = .ok (.value (.int .u8 25)) w := by kernel_rfl
theorem elemP (w : World) : (callFunc 211 #[.agg #[.pointer (some ⟨13, 125, none⟩)]]).run Tryz.prog w = .ok (.value (.iface 155 (.agg #[.pointer (some ⟨13, 69, none⟩)]))) w := by kernel_rfl
theorem implementsR (w : World) : (callFunc 212 #[.agg #[.pointer (some ⟨13, 69, none⟩)], .iface 155 (.agg #[.pointer (some ⟨13, 32, none⟩)])]).run Tryz.prog w = .ok (.value (.bool true)) w := by kernel_rfl
theorem typeOfR (v : Value) (w : World) : (callFunc 67 #[.iface 69 v]).run Tryz.prog w = .ok (.value (.iface 155 (.agg #[.pointer (some ⟨13, 69, none⟩)]))) w := by kernel_rfl
theorem assignableR (w : World) : (callFunc 209 #[.agg #[.pointer (some ⟨13, 69, none⟩)], .iface 155 (.agg #[.pointer (some ⟨13, 69, none⟩)])]).run Tryz.prog w = .ok (.value (.bool true)) w := by kernel_rfl
theorem valueOfR (t : TypeId) (u : Value) (num : Int) (w : World) : (callFunc 108 #[.iface 69 (.agg #[.iface t u, .int .i64 num])]).run Tryz.prog w
  = .ok (.value (.agg #[.pointer (some ⟨13, 69, none⟩), .pointer (some ⟨w.heap.size, 0, none⟩), .int .u64 153])) (w.alloc (.cells #[.iface t u, .int .i64 num] 69)) := by kernel_rfl
theorem rlm (z : Sem Value) (f : TypeId → Addr → Nat → Nat → Sem Value) (v : Value) :
  ReflectliteValue.method z f #[v] = (do match ← ReflectliteValue.parts v with | none => z | some (t, a, fl) => f t a fl (fl % 32)) := rfl
theorem partsP (a : Addr) (w : World) : (ReflectliteValue.parts (.agg #[.pointer (some ⟨13, 125, none⟩), .pointer (some a), .int .u64 150])).run Tryz.prog w = .ok (some (125, a, 150)) w := by kernel_rfl
theorem isNilP (a p : Addr) (W : World) (ha : W.cell? a = some (.pointer (some p))) :
  (callFunc 110 #[.agg #[.pointer (some ⟨13, 125, none⟩), .pointer (some a), .int .u64 150]]).run Tryz.prog W = .ok (.value (.bool false)) W := by
 have h8 := @run_callFunc_extern Tryz.prog 110 _ (ReflectliteValue.method (ReflectliteValue.valueError "reflectlite.Value.IsNil" 0) ReflectliteValue.isNil) Tryz.func110 (by kernel_rfl) (by kernel_rfl) (by kernel_rfl) (by kernel_rfl)
 rw [h8, rlm]
 simp only [Sem.run_bind, partsP, Result.andThen]
 simp [ReflectliteValue.isNil, loadVar, isAgg, underlying, Tryz.underlying125, ha, Result.andThen]
theorem elemOfP (w : World) : (Rtype.elem? 125).run Tryz.prog w = .ok (some 69) w := by kernel_rfl
theorem mkR (p : Addr) (w : World) : (ReflectliteValue.mk 69 p ReflectliteValue.flagAddr).run Tryz.prog w = .ok (.agg #[.pointer (some ⟨13, 69, none⟩), .pointer (some p), .int .u64 409]) w := by kernel_rfl
theorem elemVP (a p : Addr) (W : World) (ha : W.cell? a = some (.pointer (some p))) :
  (callFunc 141 #[.agg #[.pointer (some ⟨13, 125, none⟩), .pointer (some a), .int .u64 150]]).run Tryz.prog W
   = .ok (.value (.agg #[.pointer (some ⟨13, 69, none⟩), .pointer (some p), .int .u64 409])) W := by
 have h8 := @run_callFunc_extern Tryz.prog 141 _ (ReflectliteValue.method (ReflectliteValue.valueError "reflectlite.Value.Elem" 0) ReflectliteValue.elem) Tryz.func141 (by kernel_rfl) (by kernel_rfl) (by kernel_rfl) (by kernel_rfl)
 rw [h8, rlm]
 simp only [Sem.run_bind, partsP, Result.andThen]
 simp [ReflectliteValue.elem, loadVar, isAgg, underlying, Tryz.underlying125, ha, Result.andThen, elemOfP, mkR]
theorem rls (v x : Value) : ReflectliteValue.set #[v, x] = (do
  let (some (dst, a, fl), some (src, b, _)) := (← ReflectliteValue.parts v, ← ReflectliteValue.parts x)
   | unsupported (.noEntry "extern/(internal/reflectlite.Value).Set.zeroValue")
  if fl / ReflectliteValue.flagAddr % 2 == 0 then unsupported (.noEntry "extern/(internal/reflectlite.Value).Set.unaddressable")
  let val ← loadVar src b
  if ← Rtype.directlyAssignable dst src then storeVar dst a val
  else if ← Rtype.implements dst src then
   if (← Rtype.kind src) == 20 then
    match val with
    | .nilIface => unsupported (.noEntry "extern/reflectlite: a nil value of one interface type handed on as a value of another")
    | _ => storeVar dst a val
   else storeVar dst a (.iface src val)
  else panicString ("reflectlite.Set: value of type " ++ (← Rtype.spelt src) ++ " is not assignable to type " ++ (← Rtype.spelt dst))
  pure (.tuple #[])) := rfl
theorem partsRa (a : Addr) (w : World) : (ReflectliteValue.parts (.agg #[.pointer (some ⟨13, 69, none⟩), .pointer (some a), .int .u64 409])).run Tryz.prog w = .ok (some (69, a, 409)) w := by kernel_rfl
theorem partsR (a : Addr) (w : World) : (ReflectliteValue.parts (.agg #[.pointer (some ⟨13, 69, none⟩), .pointer (some a), .int .u64 153])).run Tryz.prog w = .ok (some (69, a, 153)) w := by kernel_rfl
theorem directR (w : World) : (Rtype.directlyAssignable 69 69).run Tryz.prog w = .ok true w := by kernel_rfl
theorem setR (tb b : Nat) (t : TypeId) (u o0 o1 : Value) (num : Int) (W : World) (h0 : W.cell? ⟨b, 0, none⟩ = some (.iface t u)) (h1 : W.cell? ⟨b, 1, none⟩ = some (.int .i64 num)) (t0 : W.cell? ⟨tb, 0, none⟩ = some o0) (t1 : W.cell? ⟨tb, 1, none⟩ = some o1) (f0 : W.frozen? ⟨tb, 0, none⟩ = false) (f1 : W.frozen? ⟨tb, 1, none⟩ = false) :
  (callFunc 142 #[.agg #[.pointer (some ⟨13, 69, none⟩), .pointer (some ⟨tb, 0, none⟩), .int .u64 409], .agg #[.pointer (some ⟨13, 69, none⟩), .pointer (some ⟨b, 0, none⟩), .int .u64 153]]).run Tryz.prog W
   = .ok (.value (.tuple #[])) ((W.setCell ⟨tb, 0, none⟩ (.iface t u)).setCell ⟨tb, 1, none⟩ (.int .i64 num)) := by
 have h8 := @run_callFunc_extern Tryz.prog 142 _ ReflectliteValue.set Tryz.func142 (by kernel_rfl) (by kernel_rfl) (by kernel_rfl) (by kernel_rfl)
 rw [h8, rls]
 simp only [Sem.run_bind, partsRa, partsR, Result.andThen]
 have hl : (loadVar 69 ⟨b, 0, none⟩).run Tryz.prog W = .ok (.agg #[.iface t u, .int .i64 num]) W := by
  simp [loadVar, go_sem, h0, h1, Result.andThen]
 have hs : (storeVar 69 ⟨tb, 0, none⟩ (.agg #[.iface t u, .int .i64 num])).run Tryz.prog W = .ok () ((W.setCell ⟨tb, 0, none⟩ (.iface t u)).setCell ⟨tb, 1, none⟩ (.int .i64 num)) := by
  simp [storeVar, go_sem, t0, t1, f0, f1, Result.andThen]
 simp [ReflectliteValue.flagAddr, hl, directR, hs, Result.andThen]
end Ke
end Go.Proofs.YtkknenmpdimdbaaGreatDoor
