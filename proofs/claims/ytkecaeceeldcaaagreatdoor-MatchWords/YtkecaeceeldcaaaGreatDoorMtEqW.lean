import Derived.Test.YtkecaeceeldcaaaGreatDoorMtEqO
namespace Go.Proofs.YtkecaeceeldcaaaGreatDoor
open Go.RowKit
set_option linter.unusedVariables false

/-- What the library's MaxLen holds. -/
def MaxL (m : Int) (W : World) : Prop := W.cell? ⟨2, 0, none⟩ = some (.int .i64 m)
theorem MaxL.below {m : Int} {W W' : World} (h : MaxL m W) (hb : Below W.heap.size W W') : MaxL m W' := (hb.cell (World.block_lt_of_cell? W _ h)).trans h
theorem MaxL.drew {m : Int} {W : World} (h : MaxL m W) : MaxL m W.drew := h
/-- A syntax's normal takes a text: what it answers where it is called. -/
def NormAt (x : Value) (fn : FuncId) (a na : ByteArray) (b : Bool) (W : World) : Prop := Calls Tryz.prog fn #[x, .string a] W fun e w' => e = .returned (.tuple #[.string na, .bool b]) ∧ Below W.heap.size W w'
set_option maxRecDepth 100000 in
set_option maxHeartbeats 1000000 in
theorem equalityW_any (T : TypeId) (x : Value) (fn : FuncId) (hD : SynAt T x fn) (hE : WalkedAt fn) (a na : ByteArray) (b : Bool) (w : World) (hN : NormAt x fn a na b w) : Calls Tryz.prog 25 #[.iface T x, .string a] w fun e w' => (∃ c, e = .returned (.tuple #[c, .bool b]) ∧ EqClsG w' c (.iface T x) na) ∧ Below w.heap.size w w' := by
  go_enter Tryz.func25, Tryz.ntmps25
  go_wp2_with fail
  rw [hD]
  go_wp2_with fail
  rw [hE]
  go_wp2_with fail
  refine Calls.mono hN ?_
  rintro e W1 ⟨rfl, hb1⟩
  have o1 : Hid (Below w.heap.size w W1) := hb1
  clear hb1
  obtain ⟨W2, hW2⟩ : ∃ W2, W1.alloc (.cells #[.string na] 9) = W2 := ⟨_, rfl⟩
  have hB2 : Below W1.heap.size W1 W2 := by rw [← hW2]; exact (Below.refl _ _).alloc (Nat.le_refl _) _
  have c2' : Hid (W2.cell? ⟨W1.heap.size, 0, none⟩ = some (.string na)) := by unfold Hid; rw [← hW2]; simp [go_sem]
  have o2 : Hid (Below w.heap.size w W2) := o1.out.trans (hB2.mono o1.out.size)
  clear hB2
  go_wp2_with fail
  refine (ofNormalG_any T x 37 #[.pointer (some ⟨W1.heap.size, 0, none⟩)] W2).mono ?_
  rintro e W3 ⟨rfl, h1, h2, hb3⟩
  have o3 : Hid (Below w.heap.size w W3) := o2.out.trans (hb3.mono o2.out.size)
  have hc : Hid (EqClsG W3 (.func (.func 38) #[] #[.pointer (some ⟨W2.heap.size, 0, none⟩), .pointer (some ⟨W2.heap.size + 1, 0, none⟩)]) (.iface T x) na) := ⟨_, _, _, rfl, h1, h2, (hb3.cell (World.block_lt_of_cell? W2 _ c2'.out)).trans c2'.out⟩
  clear h1 h2 hb3 hW2
  go_wp2_with fail
  go_ret2
  exact ⟨⟨_, rfl, hc.out⟩, o3.out⟩
set_option maxRecDepth 100000 in
set_option maxHeartbeats 1000000 in
theorem testW_any (T : TypeId) (x : Value) (fn : FuncId) (hD : SynAt T x fn) (hE : WalkedAt fn) (g1 g2 g3 : Nat) (v nv a : ByteArray) (b : Bool) (w : World) (hN : NormAt x fn v nv b w) (h1 : w.cell? ⟨g1, 0, none⟩ = some (.iface T x)) (h2 : w.cell? ⟨g2, 0, none⟩ = some (.func (.func 37) #[] #[.pointer (some ⟨g3, 0, none⟩)])) (h3 : w.cell? ⟨g3, 0, none⟩ = some (.string a)) :
    Calls Tryz.prog 38 #[.string v, .pointer (some ⟨g1, 0, none⟩), .pointer (some ⟨g2, 0, none⟩)] w fun e w' => e = .returned (.bool (b && (nv.toList == a.toList))) ∧ Below w.heap.size w w' := by
  have hk2 : Hid (w.cell? ⟨g2, 0, none⟩ = some (.func (.func 37) #[] #[.pointer (some ⟨g3, 0, none⟩)]) ∧ w.cell? ⟨g3, 0, none⟩ = some (.string a)) := ⟨h2, h3⟩
  clear h2 h3
  go_enter Tryz.func38, Tryz.ntmps38
  go_wp2_with fail
  rw [hD]
  go_wp2_with fail
  rw [hE]
  go_wp2_with fail
  refine Calls.mono hN ?_
  rintro e W1 ⟨rfl, hb1⟩
  have o1 : Hid (Below w.heap.size w W1) := hb1
  have c2 := (hb1.cell (World.block_lt_of_cell? w _ hk2.out.1)).trans hk2.out.1
  have c3 := (hb1.cell (World.block_lt_of_cell? w _ hk2.out.2)).trans hk2.out.2
  clear hb1 h1
  cases b
  · go_wp2_with fail
    go_ret
    exact ⟨rfl, o1.out⟩
  · go_wp2_with (go_in)
    go_ret
    exact ⟨rfl, o1.out⟩
set_option maxRecDepth 100000 in
set_option maxHeartbeats 1000000 in
theorem verdictE_any (T : TypeId) (x : Value) (fn : FuncId) (hD : SynAt T x fn) (hE : WalkedAt fn) (c : Value) (ok : Bool) (v nv a : ByteArray) (b : Bool) (w : World) (hN : NormAt x fn v nv b w) (hc : EqClsG w c (.iface T x) a) :
    Calls Tryz.prog 22 #[c, .bool ok, .string v] w fun e w' => e = .returned (tvE ok (b && (nv.toList == a.toList))) ∧ Below w.heap.size w w' := by
  obtain ⟨g1, g2, g3, rfl, h1, h2, h3⟩ := hc
  have hT := testW_any T x fn hD hE g1 g2 g3 v nv a b w hN h1 h2 h3
  obtain ⟨z, hz⟩ : ∃ z, (b && (nv.toList == a.toList)) = z := ⟨_, rfl⟩
  rw [hz] at hT
  rw [hz]
  clear hz h1 h2 h3
  cases ok
  · go_enter Tryz.func22, Tryz.ntmps22
    go_wp2_with fail
    go_ret
    exact ⟨rfl, Below.refl _ _⟩
  · go_enter Tryz.func22, Tryz.ntmps22
    go_wp2_with fail
    refine hT.mono ?_
    rintro e W1 ⟨rfl, hb1⟩
    have o1 : Hid (Below w.heap.size w W1) := hb1
    clear hT hb1
    cases z
    · go_wp2_with fail
      go_ret
      exact ⟨rfl, o1.out⟩
    · go_wp2_with fail
      go_ret
      exact ⟨rfl, o1.out⟩
set_option maxRecDepth 100000 in
set_option maxHeartbeats 1000000 in
theorem equalW_any (m : Int) (k : Int) (T : TypeId) (x : Value) (fn : FuncId) (hS : ∀ W : World, Calls Tryz.prog 21 #[.int .i64 k] W fun e w' => e = .returned (.iface T x) ∧ w' = W) (hD : SynAt T x fn) (hE : WalkedAt fn) (v nv a na : ByteArray) (bv ba : Bool) (hNv : ∀ W, MaxL m W → NormAt x fn v nv bv W) (hNa : ∀ W, MaxL m W → NormAt x fn a na ba W) (w : World) (hM : MaxL m w) :
    Calls Tryz.prog 15 #[.int .i64 k, .string v, .string a] w fun e w' => e = .returned (tvE ba (bv && (nv.toList == na.toList))) ∧ Below w.heap.size w w' := by
  have hM' : Hid (MaxL m w) := hM
  clear hM
  have hQ : ∀ W : World, MaxL m W → Hid (Calls Tryz.prog 25 #[.iface T x, .string a] W fun e w' => (∃ c, e = .returned (.tuple #[c, .bool ba]) ∧ EqClsG w' c (.iface T x) na) ∧ Below W.heap.size W w') := fun W h => equalityW_any T x fn hD hE a na ba W (hNa W h)
  have hV : ∀ (c : Value) (W : World), MaxL m W → EqClsG W c (.iface T x) na → Hid (Calls Tryz.prog 22 #[c, .bool ba, .string v] W fun e w' => e = .returned (tvE ba (bv && (nv.toList == na.toList))) ∧ Below W.heap.size W w') := fun c W h hc => verdictE_any T x fn hD hE c ba v nv na bv W (hNv W h) hc
  have hS' : ∀ W : World, Hid (Calls Tryz.prog 21 #[.int .i64 k] W fun e w' => e = .returned (.iface T x) ∧ w' = W) := hS
  clear hS hD hE hNv hNa
  go_enter Tryz.func15, Tryz.ntmps15
  go_wp2_with fail
  refine (hS' w).out.mono ?_
  rintro e w0 ⟨rfl, rfl⟩
  clear hS'
  go_wp2_with fail
  refine (hQ _ hM'.out).out.mono ?_
  rintro e W1 ⟨⟨c, rfl, hc⟩, hb1⟩
  have o1 : Hid (Below w0.heap.size w0 W1) := hb1
  have hV1 := (hV c W1 (hM'.out.below hb1) hc).out
  clear hQ hV hc hb1
  go_wp2_with fail
  refine hV1.mono ?_
  rintro e W2 ⟨rfl, hb2⟩
  have o2 : Hid (Below w0.heap.size w0 W2) := o1.out.trans (hb2.mono o1.out.size)
  clear hV1 hb2
  go_wp2_with fail
  go_ret
  exact ⟨rfl, o2.out⟩
end Go.Proofs.YtkecaeceeldcaaaGreatDoor
