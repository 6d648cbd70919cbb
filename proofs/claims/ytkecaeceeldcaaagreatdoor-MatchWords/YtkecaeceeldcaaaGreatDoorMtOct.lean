import Derived.Test.YtkecaeceeldcaaaGreatDoorRows
import Derived.WalkKit
import Derived.Deep.WholeRow
import Derived.KernelRfl
namespace Go.Proofs.YtkecaeceeldcaaaGreatDoor
open Go.RowKit
set_option linter.unusedVariables false

/-- The syntax of any bytes, as an interface value. -/
abbrev octV : Value := .iface 83 (.agg #[])
theorem synOct (w : World) : Calls Tryz.prog 21 #[.int .i64 9] w fun e w' => e = .returned octV ∧ w' = w := by
  go_enter Tryz.func21, Tryz.ntmps21
  go_wp2_with fail
  go_ret
  exact ⟨rfl, rfl⟩
theorem octN_any (v : ByteArray) (w : World) : Calls Tryz.prog 268 #[.agg #[], .string v] w fun e w' => e = .returned (.tuple #[.string v, .bool true]) ∧ Below w.heap.size w w' := by
  have hB : Hid (Below w.heap.size w (w.alloc (.cells #[] 83))) := (Below.refl _ _).alloc (Nat.le_refl _) _
  go_enter Tryz.func268, Tryz.ntmps268
  go_wp2_with fail
  go_ret2
  exact ⟨rfl, hB.out⟩
/-- The test of a value that equality makes. -/
def EqCls (W : World) (c : Value) (a : ByteArray) : Prop := ∃ g1 g2 g3, c = .func (.func 38) #[] #[.pointer (some ⟨g1, 0, none⟩), .pointer (some ⟨g2, 0, none⟩)] ∧ W.cell? ⟨g1, 0, none⟩ = some octV ∧ W.cell? ⟨g2, 0, none⟩ = some (.func (.func 37) #[] #[.pointer (some ⟨g3, 0, none⟩)]) ∧ W.cell? ⟨g3, 0, none⟩ = some (.string a)
theorem EqCls.below {W W' : World} {c : Value} {a : ByteArray} (h : EqCls W c a) (hb : Below W.heap.size W W') : EqCls W' c a := by
  obtain ⟨g1, g2, g3, e, h1, h2, h3⟩ := h
  exact ⟨g1, g2, g3, e, (hb.cell (World.block_lt_of_cell? W _ h1)).trans h1, (hb.cell (World.block_lt_of_cell? W _ h2)).trans h2, (hb.cell (World.block_lt_of_cell? W _ h3)).trans h3⟩
theorem two_cells (w : World) (x y : Value) (s t : TypeId) : ((w.alloc (.cells #[x] s)).alloc (.cells #[y] t)).cell? ⟨w.heap.size, 0, none⟩ = some x ∧ ((w.alloc (.cells #[x] s)).alloc (.cells #[y] t)).cell? ⟨w.heap.size + 1, 0, none⟩ = some y ∧ Below w.heap.size w ((w.alloc (.cells #[x] s)).alloc (.cells #[y] t)) := by
  refine ⟨?_, ?_, ((Below.refl _ _).alloc (Nat.le_refl _) _).alloc (by simp) _⟩
  · simp [go_sem]
  · simp [go_sem]
theorem ofNormal_any (g : FuncId) (lb : Array Value) (w : World) : Calls Tryz.prog 28 #[octV, .func (.func g) #[] lb] w fun e w' => e = .returned (.func (.func 38) #[] #[.pointer (some ⟨w.heap.size, 0, none⟩), .pointer (some ⟨w.heap.size + 1, 0, none⟩)]) ∧ w'.cell? ⟨w.heap.size, 0, none⟩ = some octV ∧ w'.cell? ⟨w.heap.size + 1, 0, none⟩ = some (.func (.func g) #[] lb) ∧ Below w.heap.size w w' := by
  go_enter Tryz.func28, Tryz.ntmps28
  go_wp2_with fail
  go_ret
  exact ⟨rfl, two_cells w _ _ _ _⟩
set_option maxRecDepth 100000 in
set_option maxHeartbeats 1000000 in
theorem equality_any (a : ByteArray) (w : World) : Calls Tryz.prog 25 #[octV, .string a] w fun e w' => (∃ c, e = .returned (.tuple #[c, .bool true]) ∧ EqCls w' c a) ∧ Below w.heap.size w w' := by
  have hN := octN_any a w
  go_enter Tryz.func25, Tryz.ntmps25
  go_wp2_with fail
  refine hN.mono ?_
  rintro e W1 ⟨rfl, hb1⟩
  have o1 : Hid (Below w.heap.size w W1) := hb1
  clear hN hb1
  obtain ⟨W2, hW2⟩ : ∃ W2, W1.alloc (.cells #[.string a] 9) = W2 := ⟨_, rfl⟩
  have hB2 : Below W1.heap.size W1 W2 := by rw [← hW2]; exact (Below.refl _ _).alloc (Nat.le_refl _) _
  have c2 : W2.cell? ⟨W1.heap.size, 0, none⟩ = some (.string a) := by rw [← hW2]; simp [go_sem]
  have o2 : Hid (Below w.heap.size w W2) := o1.out.trans (hB2.mono o1.out.size)
  have c2' : Hid (W2.cell? ⟨W1.heap.size, 0, none⟩ = some (.string a)) := c2
  clear hB2 c2
  go_wp2_with fail
  refine (ofNormal_any 37 #[.pointer (some ⟨W1.heap.size, 0, none⟩)] W2).mono ?_
  rintro e W3 ⟨rfl, h1, h2, hb3⟩
  have o3 : Hid (Below w.heap.size w W3) := o2.out.trans (hb3.mono o2.out.size)
  have hc : Hid (EqCls W3 (.func (.func 38) #[] #[.pointer (some ⟨W2.heap.size, 0, none⟩), .pointer (some ⟨W2.heap.size + 1, 0, none⟩)]) a) := ⟨_, _, _, rfl, h1, h2, (hb3.cell (World.block_lt_of_cell? W2 _ c2'.out)).trans c2'.out⟩
  clear h1 h2 hb3 hW2
  go_wp2_with fail
  go_ret2
  exact ⟨⟨_, rfl, hc.out⟩, o3.out⟩
set_option maxRecDepth 100000 in
set_option maxHeartbeats 1000000 in
theorem test_any (g1 g2 g3 : Nat) (v a : ByteArray) (w : World) (h1 : w.cell? ⟨g1, 0, none⟩ = some octV) (h2 : w.cell? ⟨g2, 0, none⟩ = some (.func (.func 37) #[] #[.pointer (some ⟨g3, 0, none⟩)])) (h3 : w.cell? ⟨g3, 0, none⟩ = some (.string a)) :
    Calls Tryz.prog 38 #[.string v, .pointer (some ⟨g1, 0, none⟩), .pointer (some ⟨g2, 0, none⟩)] w fun e w' => e = .returned (.bool (v.toList == a.toList)) ∧ Below w.heap.size w w' := by
  have hN := octN_any v w
  have hk2 : Hid (w.cell? ⟨g2, 0, none⟩ = some (.func (.func 37) #[] #[.pointer (some ⟨g3, 0, none⟩)]) ∧ w.cell? ⟨g3, 0, none⟩ = some (.string a)) := ⟨h2, h3⟩
  clear h2 h3
  go_enter Tryz.func38, Tryz.ntmps38
  go_wp2_with fail
  refine hN.mono ?_
  rintro e W1 ⟨rfl, hb1⟩
  have o1 : Hid (Below w.heap.size w W1) := hb1
  have c2 := (hb1.cell (World.block_lt_of_cell? w _ hk2.out.1)).trans hk2.out.1
  have c3 := (hb1.cell (World.block_lt_of_cell? w _ hk2.out.2)).trans hk2.out.2
  clear hN hb1 h1
  go_wp2_with (go_in)
  go_ret
  exact ⟨rfl, o1.out⟩
end Go.Proofs.YtkecaeceeldcaaaGreatDoor
