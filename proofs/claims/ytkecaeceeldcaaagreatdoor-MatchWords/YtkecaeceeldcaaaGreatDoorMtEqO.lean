import Derived.Test.YtkecaeceeldcaaaGreatDoorMtEq
namespace Go.Proofs.YtkecaeceeldcaaaGreatDoor
open Go.RowKit
set_option linter.unusedVariables false

set_option maxRecDepth 100000 in
theorem octAt : SynAt 83 (.agg #[]) 268 := fun n W => by kernel_rfl
set_option maxRecDepth 100000 in
theorem octWalked : WalkedAt 268 := fun args W => by kernel_rfl
theorem octNorm (v : ByteArray) : NormIs (.agg #[]) 268 v v true := fun W => octN_any v W
set_option maxRecDepth 100000 in
set_option maxHeartbeats 1000000 in
theorem equalG_any (k : Int) (T : TypeId) (x : Value) (fn : FuncId) (hS : ∀ W : World, Calls Tryz.prog 21 #[.int .i64 k] W fun e w' => e = .returned (.iface T x) ∧ w' = W) (hD : SynAt T x fn) (hE : WalkedAt fn) (v nv a na : ByteArray) (bv ba : Bool) (hNv : NormIs x fn v nv bv) (hNa : NormIs x fn a na ba) (w : World) :
    Calls Tryz.prog 15 #[.int .i64 k, .string v, .string a] w fun e w' => e = .returned (tvE ba (bv && (nv.toList == na.toList))) ∧ Below w.heap.size w w' := by
  have hQ : ∀ W : World, Hid (Calls Tryz.prog 25 #[.iface T x, .string a] W fun e w' => (∃ c, e = .returned (.tuple #[c, .bool ba]) ∧ EqClsG w' c (.iface T x) na) ∧ Below W.heap.size W w') := fun W => equalityG_any T x fn hD hE a na ba hNa W
  have hV : ∀ (c : Value) (W : World), EqClsG W c (.iface T x) na → Hid (Calls Tryz.prog 22 #[c, .bool ba, .string v] W fun e w' => e = .returned (tvE ba (bv && (nv.toList == na.toList))) ∧ Below W.heap.size W w') := fun c W hc => verdictG_any T x fn hD hE c ba v nv na bv hNv W hc
  have hS' : ∀ W : World, Hid (Calls Tryz.prog 21 #[.int .i64 k] W fun e w' => e = .returned (.iface T x) ∧ w' = W) := hS
  clear hS hD hE hNv hNa
  go_enter Tryz.func15, Tryz.ntmps15
  go_wp2_with fail
  refine (hS' w).out.mono ?_
  rintro e w0 ⟨rfl, rfl⟩
  clear hS'
  go_wp2_with fail
  refine (hQ _).out.mono ?_
  rintro e W1 ⟨⟨c, rfl, hc⟩, hb1⟩
  have o1 : Hid (Below w0.heap.size w0 W1) := hb1
  have hV1 := (hV c W1 hc).out
  clear hQ hV hc hb1
  go_wp2_with fail
  refine hV1.mono ?_
  rintro e W2 ⟨rfl, hb2⟩
  have o2 : Hid (Below w0.heap.size w0 W2) := o1.out.trans (hb2.mono o1.out.size)
  clear hV1 hb2
  go_wp2_with fail
  go_ret
  exact ⟨rfl, o2.out⟩
end Go.Proofs.YtkecaeceeldcaaaGreatDoor
