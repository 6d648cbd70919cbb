import Derived.Deep.DeepCutAuto
import Derived.Test.YtkecaeceeldcaaaGreatDoorMtRuB
namespace Go.Proofs.YtkecaeceeldcaaaGreatDoor
open Go.RowKit
set_option linter.unusedVariables false
namespace Ru

set_option maxRecDepth 100000 in
set_option maxHeartbeats 4000000 in
theorem byRule_gen (r : Nat) (k s : Int) (T : TypeId) (x : Value) (fa : FuncId) (hr0 : 1 ≤ r) (hr1 : r ≤ 30) (hrow : ∀ cs, RulC cs → ∃ n o, RulAt cs r n o k fa) (hwk : WalkedAt fa) (hks : fam k = fam s) (hS : ∀ W : World, Calls Tryz.prog 21 #[.int .i64 k] W fun e w' => e = .returned (.iface T x) ∧ w' = W) (v a : ByteArray) (ba : Bool) (res : Value) (Cls : World → Value → Prop) (w : World)
    (hQ : ∀ W : World, Below w.heap.size w W → Hid (Calls Tryz.prog fa #[.iface T x, .string a] W fun e w' => (∃ c, e = .returned (.tuple #[c, .bool ba]) ∧ Cls w' c) ∧ Below W.heap.size W w'))
    (hV : ∀ (c : Value) (W : World), Below w.heap.size w W → Cls W c → Hid (Calls Tryz.prog 22 #[c, .bool ba, .string v] W fun e w' => e = .returned res ∧ Below W.heap.size W w')) :
    Calls Tryz.prog 9 #[.int .i64 (r : Int), .int .i64 s, .string v, .string a] w fun e w' => e = .returned res ∧ Below w.heap.size w w' := by
  have hA : Hid (Calls Tryz.prog 19 #[.int .i64 (r : Int)] w fun e w' => (∃ n o, e = .returned (.tuple #[.agg #[.string n, .string o, .int .i64 k, .func (.func fa) #[] #[]], .bool true])) ∧ Below w.heap.size w w') := ruleAt_any r k _ hr0 hr1 hrow w
  have hU : ∀ n o W, Hid (Calls Tryz.prog 20 #[.agg #[.string n, .string o, .int .i64 k, .func (.func fa) #[] #[]], .int .i64 s] W fun e w' => e = .returned (.bool true) ∧ Below W.heap.size W w') := fun n o W => suits_fam n o k s _ hks W
  have hS' : ∀ W : World, Hid (Calls Tryz.prog 21 #[.int .i64 k] W fun e w' => e = .returned (.iface T x) ∧ w' = W) := hS
  have hm3 : ∀ W, Sem.run Tryz.prog (callFunc fa #[.iface T x, .string a]) W = .ok (.enter fa #[.iface T x, .string a]) W := fun W => hwk _ _
  clear hS hwk hrow hks hr0 hr1
  go_enter Tryz.func9, Tryz.ntmps9
  go_wp2_with fail
  refine hA.out.mono ?_
  rintro e W1 ⟨⟨n, o, rfl⟩, hb1⟩
  obtain ⟨W2, hW2⟩ : ∃ W2, W1.alloc (.cells #[.string n, .string o, .int .i64 k, .func (.func fa) #[] #[]] 47) = W2 := ⟨_, rfl⟩
  have G2 : W2.heap[W1.heap.size]? = some (.cells #[.string n, .string o, .int .i64 k, .func (.func fa) #[] #[]] 47 (0, 0)) := by rw [← hW2]; exact heap_alloc_last W1 _
  have hbx : Hid (Below w.heap.size w W2) := by unfold Hid; rw [← hW2]; exact hb1.alloc hb1.size _
  have hlt : W1.heap.size < W2.heap.size := (Array.getElem?_eq_some_iff.1 G2).1
  have c0 : W2.cell? ⟨W1.heap.size, 0, none⟩ = some (.string n) := by rw [cell_of_row W2 _ _ _ _ _ G2]; rfl
  have c1 : W2.cell? ⟨W1.heap.size, 1, none⟩ = some (.string o) := by rw [cell_of_row W2 _ _ _ _ _ G2]; rfl
  have c2 : W2.cell? ⟨W1.heap.size, 2, none⟩ = some (.int .i64 k) := by rw [cell_of_row W2 _ _ _ _ _ G2]; rfl
  have c3 : W2.cell? ⟨W1.heap.size, 3, none⟩ = some (.func (.func fa) #[] #[]) := by rw [cell_of_row W2 _ _ _ _ _ G2]; rfl
  have hlt' : Hid (W1.heap.size < W2.heap.size) := hlt
  have hst : (store ⟨W1.heap.size, 3, none⟩ (.func (.func fa) #[] #[])).run Tryz.prog (W1.alloc (.cells #[.string n, .string o, .int .i64 k, .nilFunc] 47)) = .ok () W2 := by
    rw [run_store Tryz.prog _ _ _ _ rfl, ← hW2]
    simp [go_sem]
  clear hA hb1 G2 hlt
  go_upto_region 4 with (go_at_call 20; refine (hU n o _).out.mono ?_; rintro e W3 ⟨rfl, hb3⟩)
  have d2 : W3.cell? ⟨W1.heap.size, 2, none⟩ = some (.int .i64 k) := (hb3.cell hlt'.out).trans c2
  have d3 : W3.cell? ⟨W1.heap.size, 3, none⟩ = some (.func (.func fa) #[] #[]) := (hb3.cell hlt'.out).trans c3
  have hz3 : W1.heap.size < W3.heap.size := Nat.lt_of_lt_of_le hlt'.out hb3.size
  have hby : Hid (Below w.heap.size w W3) := hbx.out.trans (hb3.mono hbx.out.size)
  have hbz : Hid (Below w.heap.size w W3.drew) := hby.out.trans ⟨rfl, rfl, rfl, Nat.le_refl _, fun _ _ => rfl⟩
  clear c0 c1 c2 c3 hU hb3 hlt' hbx hW2
  go_region_held3 (fun w' => w'.cell? ⟨W1.heap.size, 2, none⟩ = some (.int .i64 k) ∧ w'.cell? ⟨W1.heap.size, 3, none⟩ = some (.func (.func fa) #[] #[]))
    (first | go_keep | exact ⟨(hb4.cell (by simpa using hz3)).trans (by simpa using d2), (hb4.cell (by simpa using hz3)).trans (by simpa using d3)⟩)
    (first | (go_at_call 21; refine (hS' _).out.mono ?_; rintro e w' ⟨rfl, rfl⟩) | (refine (hQ _ hbz.out).out.mono ?_; rintro e W4 ⟨⟨c, rfl, hc⟩, hb4⟩))
  have hb4' : Hid (Below w.heap.size w W4) := hby.out.trans ((((Below.refl W3.heap.size W3).drew).trans hb4).mono hby.out.size)
  have hV4 := hV c W4 hb4'.out hc
  clear hV hc hb4 hQ hS' d2 d3 hm3
  go_wp2_with (go_at_call 22; refine hV4.out.mono ?_; rintro e W5 ⟨rfl, hb5⟩)
  go_ret
  exact ⟨rfl, hb4'.out.trans (hb5.mono hb4'.out.size)⟩
end Ru
end Go.Proofs.YtkecaeceeldcaaaGreatDoor
