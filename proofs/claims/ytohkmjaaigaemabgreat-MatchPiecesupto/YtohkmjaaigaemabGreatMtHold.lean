import Derived.Test.YtohkmjaaigaemabGreatMtPat
namespace Go.Proofs.YtohkmjaaigaemabGreat
open Go.RowKit
open FitM (gre progF)
set_option linter.unusedVariables false

/-- The test of a value that holding makes. -/
def HoldCls (W : World) (c : Value) (i f : ByteArray) (l : List (List UInt8)) : Prop :=
  ∃ g1 g2 g3 g, c = .func (.func 22) #[] #[.pointer (some ⟨g1, 0, none⟩), .pointer (some ⟨g2, 0, none⟩)] ∧ W.cell? ⟨g1, 0, none⟩ = some octV ∧ W.cell? ⟨g2, 0, none⟩ = some (.func (.func 18) #[] #[.pointer (some ⟨g3, 0, none⟩)]) ∧ PatV W g3 i (.slice (some ⟨g, 0, none⟩) l.length l.length) f ∧ Row W (some ⟨g, 0, none⟩) l
set_option maxRecDepth 100000 in
set_option maxHeartbeats 1000000 in
theorem holding_any (i f : ByteArray) (l : List (List UInt8)) (a : Option Addr) (c : Nat) (w : World) (hr : Row w a l) (hl : l.length ≤ 4194304) (hne : ¬ (i.toList.isEmpty = true ∧ f.toList.isEmpty = true ∧ l = [])) :
    Calls Tryz.prog 10 #[octV, .agg #[.string i, .slice a l.length c, .string f]] w fun e w' => (∃ c, e = .returned (.tuple #[c, .bool true]) ∧ HoldCls w' c i f l) ∧ Below w.heap.size w w' := by
  obtain ⟨W0, hW0⟩ : ∃ W, w.alloc (.cells #[.string i, .slice a l.length c, .string f] 24) = W := ⟨_, rfl⟩
  have b0 : Below w.heap.size w W0 := by rw [← hW0]; exact (Below.refl _ _).alloc (Nat.le_refl _) _
  have p0 : PatV W0 w.heap.size i (.slice a l.length c) f := by rw [← hW0]; exact heap_alloc_last w _
  have hN := normPat_any i f l a c W0 (hr.below b0) hl hne
  have o0 : Hid (Below w.heap.size w W0) := b0
  obtain ⟨⟨c0, z0⟩, ⟨c1, z1⟩, ⟨c2, z2⟩⟩ := p0.cells
  have hle : Hid (Row w a l ∧ PatV W0 w.heap.size i (.slice a l.length c) f) := ⟨hr, p0⟩
  clear hr b0 p0 hl hne
  go_enter Tryz.func10, Tryz.ntmps10
  go_wp2_with fail
  refine hN.mono ?_
  rintro e W1 ⟨⟨g, rfl, hr1⟩, hb1⟩
  have o1 : Hid (Below w.heap.size w W1) := o0.out.trans (hb1.mono o0.out.size)
  have hr1' : Hid (Row W1 (some ⟨g, 0, none⟩) l) := hr1
  obtain ⟨W2, hW2⟩ : ∃ W, W1.alloc (.cells #[.string i, .slice (some ⟨g, 0, none⟩) l.length l.length, .string f] 24) = W := ⟨_, rfl⟩
  have b2 : Below W1.heap.size W1 W2 := by rw [← hW2]; exact (Below.refl _ _).alloc (Nat.le_refl _) _
  have p2 : Hid (PatV W2 W1.heap.size i (.slice (some ⟨g, 0, none⟩) l.length l.length) f ∧ Row W2 (some ⟨g, 0, none⟩) l ∧ Below w.heap.size w W2) := ⟨by rw [← hW2]; exact heap_alloc_last W1 _, hr1.below b2, o1.out.trans (b2.mono o1.out.size)⟩
  clear hN hb1 hr1 b2 hW0 hle c0 z0 c1 z1 c2 z2
  go_wp2_with fail
  refine (ofNormal_any 18 #[.pointer (some ⟨W1.heap.size, 0, none⟩)] W2).mono ?_
  rintro e W3 ⟨rfl, h1, h2, hb3⟩
  have o3 : Hid (Below w.heap.size w W3) := p2.out.2.2.trans (hb3.mono p2.out.2.2.size)
  have hc : Hid (HoldCls W3 (.func (.func 22) #[] #[.pointer (some ⟨W2.heap.size, 0, none⟩), .pointer (some ⟨W2.heap.size + 1, 0, none⟩)]) i f l) := ⟨_, _, _, g, rfl, h1, h2, p2.out.1.of_block (hb3.block _ p2.out.1.lt), p2.out.2.1.below hb3⟩
  clear h1 h2 hb3 hW2
  go_wp2_with fail
  go_ret2
  exact ⟨⟨_, rfl, hc.out⟩, o3.out⟩
set_option maxRecDepth 100000 in
set_option maxHeartbeats 1000000 in
theorem hold1_any (g3 g : Nat) (v i f : ByteArray) (l : List (List UInt8)) (m : Int) (w : World) (hm : w.cell? ⟨0, 0, none⟩ = some (.int .i64 m)) (h3 : PatV w g3 i (.slice (some ⟨g, 0, none⟩) l.length l.length) f) (hr : Row w (some ⟨g, 0, none⟩) l) (hv : v.size ≤ 4194304) (hl : l.length ≤ 4194304) :
    Calls Tryz.prog 18 #[.string v, .pointer (some ⟨g3, 0, none⟩)] w fun e w' => e = .returned (.bool (progF v.data.toList i.data.toList l f.data.toList)) ∧ Below w.heap.size w w' := by
  have hF := fits_any v i f l (some ⟨g, 0, none⟩) l.length m w hm hr hv hl
  obtain ⟨⟨d0, y0⟩, ⟨d1, y1⟩, ⟨d2, y2⟩⟩ := h3.cells
  clear hm h3 hr hv hl
  go_enter Tryz.func18, Tryz.ntmps18
  go_wp2_with fail
  refine hF.mono ?_
  rintro e W1 ⟨rfl, hb1⟩
  clear hF d0 y0 d1 y1 d2 y2
  go_wp2_with fail
  go_ret
  exact ⟨rfl, hb1⟩
set_option maxRecDepth 100000 in
set_option maxHeartbeats 1000000 in
theorem holdTest_any (g1 g2 g3 g : Nat) (v i f : ByteArray) (l : List (List UInt8)) (m : Int) (w : World) (hm : w.cell? ⟨0, 0, none⟩ = some (.int .i64 m)) (h1 : w.cell? ⟨g1, 0, none⟩ = some octV) (h2 : w.cell? ⟨g2, 0, none⟩ = some (.func (.func 18) #[] #[.pointer (some ⟨g3, 0, none⟩)])) (h3 : PatV w g3 i (.slice (some ⟨g, 0, none⟩) l.length l.length) f) (hr : Row w (some ⟨g, 0, none⟩) l) (hv : v.size ≤ 4194304) (hl : l.length ≤ 4194304) :
    Calls Tryz.prog 22 #[.string v, .pointer (some ⟨g1, 0, none⟩), .pointer (some ⟨g2, 0, none⟩)] w fun e w' => e = .returned (.bool (progF v.data.toList i.data.toList l f.data.toList)) ∧ Below w.heap.size w w' := by
  have hN := octN_any v w
  have hk2 : Hid (w.cell? ⟨g2, 0, none⟩ = some (.func (.func 18) #[] #[.pointer (some ⟨g3, 0, none⟩)]) ∧ PatV w g3 i (.slice (some ⟨g, 0, none⟩) l.length l.length) f ∧ Row w (some ⟨g, 0, none⟩) l ∧ w.cell? ⟨0, 0, none⟩ = some (.int .i64 m)) := ⟨h2, h3, hr, hm⟩
  clear h2 h3 hr hm
  go_enter Tryz.func22, Tryz.ntmps22
  go_wp2_with fail
  refine hN.mono ?_
  rintro e W1 ⟨rfl, hb1⟩
  have o1 : Hid (Below w.heap.size w W1) := hb1
  have c2 := (hb1.cell (World.block_lt_of_cell? w _ hk2.out.1)).trans hk2.out.1
  have hH := hold1_any g3 g v i f l m W1 ((hb1.cell (World.block_lt_of_cell? w _ hk2.out.2.2.2)).trans hk2.out.2.2.2) (hk2.out.2.1.of_block (hb1.block _ hk2.out.2.1.lt)) (hk2.out.2.2.1.below hb1) hv hl
  clear hN hb1 h1 hk2 hv hl
  go_wp2_with fail
  refine hH.mono ?_
  rintro e W2 ⟨rfl, hb2⟩
  have o2 : Hid (Below w.heap.size w W2) := o1.out.trans (hb2.mono o1.out.size)
  clear hH hb2 c2
  go_wp2_with fail
  go_ret
  exact ⟨rfl, o2.out⟩
/-- A truth by its number. -/
def tv (b : Bool) : Value := if b then .int .i64 2 else .int .i64 0
set_option maxRecDepth 100000 in
set_option maxHeartbeats 1000000 in
theorem verdict_any (c : Value) (v i f : ByteArray) (l : List (List UInt8)) (m : Int) (w : World) (hc : HoldCls w c i f l) (hm : w.cell? ⟨0, 0, none⟩ = some (.int .i64 m)) (hv : v.size ≤ 4194304) (hl : l.length ≤ 4194304) :
    Calls Tryz.prog 12 #[c, .bool true, .string v] w fun e w' => e = .returned (tv (progF v.data.toList i.data.toList l f.data.toList)) ∧ Below w.heap.size w w' := by
  obtain ⟨g1, g2, g3, g, rfl, h1, h2, h3, h4⟩ := hc
  have hT := holdTest_any g1 g2 g3 g v i f l m w hm h1 h2 h3 h4 hv hl
  obtain ⟨ans, hA⟩ : ∃ x, progF v.data.toList i.data.toList l f.data.toList = x := ⟨_, rfl⟩
  rw [hA] at hT
  rw [hA]
  clear hm h1 h2 h3 h4 hv hl hA
  go_enter Tryz.func12, Tryz.ntmps12
  go_wp2_with fail
  refine hT.mono ?_
  rintro e W1 ⟨rfl, hb1⟩
  have o1 : Hid (Below w.heap.size w W1) := hb1
  clear hT hb1
  cases ans
  · go_wp2_with fail
    go_ret
    exact ⟨rfl, o1.out⟩
  · go_wp2_with fail
    go_ret
    exact ⟨rfl, o1.out⟩
end Go.Proofs.YtohkmjaaigaemabGreat
