import Derived.Test.YtkecaeceeldcaaaGreatDoorMtFrmM
import Derived.Test.YtkecaeceeldcaaaGreatDoorMtIntN
namespace Go.Proofs.YtkecaeceeldcaaaGreatDoor
open Go.RowKit
open TextMath (fold squeeze check lo bl sqA sqB)
set_option linter.unusedVariables false

set_option maxRecDepth 100000 in
set_option maxHeartbeats 1000000 in
/-- match.Normal, by what a syntax's normal answers. -/
theorem normalK_any (k : Int) (T : TypeId) (x : Value) (fn : FuncId) (hS : ∀ W : World, Calls Tryz.prog 21 #[.int .i64 k] W fun e w' => e = .returned (.iface T x) ∧ w' = W) (hD : SynAt T x fn) (hE : WalkedAt fn) (v nv : ByteArray) (b : Bool) (w : World) (hN : NormAt x fn v nv b w) :
    Calls Tryz.prog 14 #[.int .i64 k, .string v] w fun e w' => e = .returned (.tuple #[.string nv, .bool b]) ∧ Below w.heap.size w w' := by
  have hS' : Hid (Calls Tryz.prog 21 #[.int .i64 k] w fun e w' => e = .returned (.iface T x) ∧ w' = w) := hS w
  clear hS
  go_enter Tryz.func14, Tryz.ntmps14
  go_wp2_with fail
  refine hS'.out.mono ?_
  rintro e w0 ⟨rfl, rfl⟩
  clear hS'
  go_wp2_with fail
  rw [hD]
  go_wp2_with fail
  rw [hE]
  go_wp2_with fail
  refine Calls.mono hN ?_
  rintro e W1 ⟨rfl, hb1⟩
  have o1 : Hid (Below w0.heap.size w0 W1) := hb1
  clear hb1
  go_wp2_with fail
  go_ret2
  exact ⟨rfl, o1.out⟩
theorem l_S (v : ByteArray) : S v.data.toList = v := S_eq _ _ (S_l _)
theorem synBo (w : World) : Calls Tryz.prog 21 #[.int .i64 8] w fun e w' => e = .returned (.iface 82 exX) ∧ w' = w := by
  go_enter Tryz.func21, Tryz.ntmps21
  go_wp2_with fail
  go_ret
  exact ⟨rfl, rfl⟩
theorem synOi (w : World) : Calls Tryz.prog 21 #[.int .i64 11] w fun e w' => e = .returned (.iface 85 exX) ∧ w' = w := by
  go_enter Tryz.func21, Tryz.ntmps21
  go_wp2_with fail
  go_ret
  exact ⟨rfl, rfl⟩
set_option maxRecDepth 100000 in
theorem boAt : SynAt 82 exX 267 := fun n W => by kernel_rfl
set_option maxRecDepth 100000 in
theorem boWalked : WalkedAt 267 := fun args W => by kernel_rfl
set_option maxRecDepth 100000 in
theorem oiAt : SynAt 85 exX 272 := fun n W => by kernel_rfl
set_option maxRecDepth 100000 in
theorem oiWalked : WalkedAt 272 := fun args W => by kernel_rfl
def boOk (v : ByteArray) : Bool := (v.toList == [84, 82, 85, 69]) || (v.toList == [70, 65, 76, 83, 69])
set_option maxRecDepth 100000 in
set_option maxHeartbeats 1000000 in
theorem boN_any (v : ByteArray) : NormIs exX 267 v (nrm (boOk v) v) (boOk v) := fun W => by
  have h4 : ∀ b W, Hid (Calls Tryz.prog 260 #[.string v, .bool b] W fun e w' => e = .returned (.tuple #[.string (nrm b v), .bool b]) ∧ w' = W) := fun b W => itself_any v b W
  have hB : Hid (Below W.heap.size W (W.alloc (.cells #[] 82))) := (Below.refl _ _).alloc (Nat.le_refl _) _
  unfold boOk
  obtain ⟨b1, h1⟩ : ∃ b, (v.toList == [84, 82, 85, 69]) = b := ⟨_, rfl⟩
  obtain ⟨b2, h2⟩ : ∃ b, (v.toList == [70, 65, 76, 83, 69]) = b := ⟨_, rfl⟩
  rw [h1, h2]
  have h4' := h4 (b1 || b2)
  clear h4
  cases b1 <;> cases b2
  all_goals
    go_enter Tryz.func267, Tryz.ntmps267
    go_wp2_with (go_at_call 260; refine (h4' _).out.mono ?_; rintro e w' ⟨rfl, rfl⟩)
    go_ret2
    exact ⟨rfl, hB.out⟩
end Go.Proofs.YtkecaeceeldcaaaGreatDoor
