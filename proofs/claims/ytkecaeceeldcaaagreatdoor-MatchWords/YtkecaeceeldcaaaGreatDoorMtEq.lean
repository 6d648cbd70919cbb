import Derived.Test.YtkecaeceeldcaaaGreatDoorMtOct
namespace Go.Proofs.YtkecaeceeldcaaaGreatDoor
open Go.RowKit
set_option linter.unusedVariables false

/-- A syntax as an interface value, and where its normal lies. -/
def SynAt (T : TypeId) (x : Value) (fn : FuncId) : Prop := ∀ (n : Nat) (W : World), Sem.run Tryz.prog (method (n + 1) T x "roster/match.normal") W = .ok (fn, x) W
/-- It is a function that is walked. -/
def WalkedAt (fn : FuncId) : Prop := ∀ (args : Array Value) (W : World), Sem.run Tryz.prog (callFunc fn args) W = .ok (.enter fn args) W
/-- Its normal takes a text: what it answers, wherever it is called. -/
def NormIs (x : Value) (fn : FuncId) (a na : ByteArray) (b : Bool) : Prop := ∀ W : World, Calls Tryz.prog fn #[x, .string a] W fun e w' => e = .returned (.tuple #[.string na, .bool b]) ∧ Below W.heap.size W w'
def EqClsG (W : World) (c V : Value) (a : ByteArray) : Prop := ∃ g1 g2 g3, c = .func (.func 38) #[] #[.pointer (some ⟨g1, 0, none⟩), .pointer (some ⟨g2, 0, none⟩)] ∧ W.cell? ⟨g1, 0, none⟩ = some V ∧ W.cell? ⟨g2, 0, none⟩ = some (.func (.func 37) #[] #[.pointer (some ⟨g3, 0, none⟩)]) ∧ W.cell? ⟨g3, 0, none⟩ = some (.string a)
theorem ofNormalG_any (T : TypeId) (x : Value) (g : FuncId) (lb : Array Value) (w : World) : Calls Tryz.prog 28 #[.iface T x, .func (.func g) #[] lb] w fun e w' => e = .returned (.func (.func 38) #[] #[.pointer (some ⟨w.heap.size, 0, none⟩), .pointer (some ⟨w.heap.size + 1, 0, none⟩)]) ∧ w'.cell? ⟨w.heap.size, 0, none⟩ = some (.iface T x) ∧ w'.cell? ⟨w.heap.size + 1, 0, none⟩ = some (.func (.func g) #[] lb) ∧ Below w.heap.size w w' := by
  go_enter Tryz.func28, Tryz.ntmps28
  go_wp2_with fail
  go_ret
  exact ⟨rfl, two_cells w _ _ _ _⟩
set_option maxRecDepth 100000 in
set_option maxHeartbeats 1000000 in
theorem equalityG_any (T : TypeId) (x : Value) (fn : FuncId) (hD : SynAt T x fn) (hE : WalkedAt fn) (a na : ByteArray) (b : Bool) (hN : NormIs x fn a na b) (w : World) : Calls Tryz.prog 25 #[.iface T x, .string a] w fun e w' => (∃ c, e = .returned (.tuple #[c, .bool b]) ∧ EqClsG w' c (.iface T x) na) ∧ Below w.heap.size w w' := by
  go_enter Tryz.func25, Tryz.ntmps25
  go_wp2_with fail
  rw [hD]
  go_wp2_with fail
  rw [hE]
  go_wp2_with fail
  refine (hN w).mono ?_
  rintro e W1 ⟨rfl, hb1⟩
  have o1 : Hid (Below w.heap.size w W1) := hb1
  clear hb1
  obtain ⟨W2, hW2⟩ : ∃ W2, W1.alloc (.cells #[.string na] 9) = W2 := ⟨_, rfl⟩
  have hB2 : Below W1.heap.size W1 W2 := by rw [← hW2]; exact (Below.refl _ _).alloc (Nat.le_refl _) _
  have c2' : Hid (W2.cell? ⟨W1.heap.size, 0, none⟩ = some (.string na)) := by unfold Hid; rw [← hW2]; simp [go_sem]
  have o2 : Hid (Below w.heap.size w W2) := o1.out.trans (hB2.mono o1.out.size)
  clear hB2
  go_wp2_with fail
  refine (ofNormalG_any T x 37 #[.pointer (some ⟨W1.heap.size, 0, none⟩)] W2).mono ?_
  rintro e W3 ⟨rfl, h1, h2, hb3⟩
  have o3 : Hid (Below w.heap.size w W3) := o2.out.trans (hb3.mono o2.out.size)
  have hc : Hid (EqClsG W3 (.func (.func 38) #[] #[.pointer (some ⟨W2.heap.size, 0, none⟩), .pointer (some ⟨W2.heap.size + 1, 0, none⟩)]) (.iface T x) na) := ⟨_, _, _, rfl, h1, h2, (hb3.cell (World.block_lt_of_cell? W2 _ c2'.out)).trans c2'.out⟩
  clear h1 h2 hb3 hW2
  go_wp2_with fail
  go_ret2
  exact ⟨⟨_, rfl, hc.out⟩, o3.out⟩
set_option maxRecDepth 100000 in
set_option maxHeartbeats 1000000 in
theorem testG_any (T : TypeId) (x : Value) (fn : FuncId) (hD : SynAt T x fn) (hE : WalkedAt fn) (g1 g2 g3 : Nat) (v nv a : ByteArray) (b : Bool) (hN : NormIs x fn v nv b) (w : World) (h1 : w.cell? ⟨g1, 0, none⟩ = some (.iface T x)) (h2 : w.cell? ⟨g2, 0, none⟩ = some (.func (.func 37) #[] #[.pointer (some ⟨g3, 0, none⟩)])) (h3 : w.cell? ⟨g3, 0, none⟩ = some (.string a)) :
    Calls Tryz.prog 38 #[.string v, .pointer (some ⟨g1, 0, none⟩), .pointer (some ⟨g2, 0, none⟩)] w fun e w' => e = .returned (.bool (b && (nv.toList == a.toList))) ∧ Below w.heap.size w w' := by
  have hk2 : Hid (w.cell? ⟨g2, 0, none⟩ = some (.func (.func 37) #[] #[.pointer (some ⟨g3, 0, none⟩)]) ∧ w.cell? ⟨g3, 0, none⟩ = some (.string a)) := ⟨h2, h3⟩
  clear h2 h3
  go_enter Tryz.func38, Tryz.ntmps38
  go_wp2_with fail
  rw [hD]
  go_wp2_with fail
  rw [hE]
  go_wp2_with fail
  refine (hN w).mono ?_
  rintro e W1 ⟨rfl, hb1⟩
  have o1 : Hid (Below w.heap.size w W1) := hb1
  have c2 := (hb1.cell (World.block_lt_of_cell? w _ hk2.out.1)).trans hk2.out.1
  have c3 := (hb1.cell (World.block_lt_of_cell? w _ hk2.out.2)).trans hk2.out.2
  clear hb1 h1
  cases b
  · go_wp2_with fail
    go_ret
    exact ⟨rfl, o1.out⟩
  · go_wp2_with (go_in)
    go_ret
    exact ⟨rfl, o1.out⟩
/-- A truth by its number. -/
def tvE (ok b : Bool) : Value := if ok then (if b then .int .i64 2 else .int .i64 0) else .int .i64 1
set_option maxRecDepth 100000 in
set_option maxHeartbeats 1000000 in
theorem verdictG_any (T : TypeId) (x : Value) (fn : FuncId) (hD : SynAt T x fn) (hE : WalkedAt fn) (c : Value) (ok : Bool) (v nv a : ByteArray) (b : Bool) (hN : NormIs x fn v nv b) (w : World) (hc : EqClsG w c (.iface T x) a) :
    Calls Tryz.prog 22 #[c, .bool ok, .string v] w fun e w' => e = .returned (tvE ok (b && (nv.toList == a.toList))) ∧ Below w.heap.size w w' := by
  obtain ⟨g1, g2, g3, rfl, h1, h2, h3⟩ := hc
  have hT := testG_any T x fn hD hE g1 g2 g3 v nv a b hN w h1 h2 h3
  obtain ⟨z, hz⟩ : ∃ z, (b && (nv.toList == a.toList)) = z := ⟨_, rfl⟩
  rw [hz] at hT
  rw [hz]
  clear hz h1 h2 h3
  cases ok
  · go_enter Tryz.func22, Tryz.ntmps22
    go_wp2_with fail
    go_ret
    exact ⟨rfl, Below.refl _ _⟩
  · go_enter Tryz.func22, Tryz.ntmps22
    go_wp2_with fail
    refine hT.mono ?_
    rintro e W1 ⟨rfl, hb1⟩
    have o1 : Hid (Below w.heap.size w W1) := hb1
    clear hT hb1
    cases z
    · go_wp2_with fail
      go_ret
      exact ⟨rfl, o1.out⟩
    · go_wp2_with fail
      go_ret
      exact ⟨rfl, o1.out⟩
end Go.Proofs.YtkecaeceeldcaaaGreatDoor
