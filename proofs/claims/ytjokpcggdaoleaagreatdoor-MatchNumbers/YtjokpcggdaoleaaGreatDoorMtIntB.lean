import Derived.Test.YtjokpcggdaoleaaGreatDoorMtIntO
import Derived.Test.YtjokpcggdaoleaaGreatDoorMtRul3
import Derived.Test.YtjokpcggdaoleaaGreatDoorMtPI
namespace Go.Proofs.YtjokpcggdaoleaaGreatDoor
open Go.RowKit
set_option linter.unusedVariables false

/-- What the variable ErrRange holds. -/
def ErrV (ev : Value) (W : World) : Prop := W.cell? ⟨10, 0, none⟩ = some ev
def IsI (ev : Value) : Prop := ev = .nilIface ∨ ∃ te pe, ev = .iface te pe
theorem ErrV.below {ev : Value} {W W' : World} (h : ErrV ev W) (hb : Below W.heap.size W W') : ErrV ev W' := (hb.cell (World.block_lt_of_cell? W _ h)).trans h
/-- A text as a number of 64 bits. -/
def WordIs (ev : Value) (a : ByteArray) (n : Int) (b : Bool) : Prop := ∀ W, ErrV ev W → Calls Tryz.prog 56 #[intV, .string a] W fun e w' => (∃ m, e = .returned (.tuple #[.int .i64 m, .bool b]) ∧ (b = true → m = n)) ∧ Below W.heap.size W w'
set_option maxRecDepth 100000 in
set_option maxHeartbeats 1000000 in
theorem word_ok (ev : Value) (a : ByteArray) (n : Int) (hz : a.size ≤ 1099511627776) (hi : intOk a.data.toList = true) (hp : Lib.parseIntB 64 a.data.toList = .ok n) : WordIs ev a n true := fun W hE => by
  have hN := intN_any a
  rw [hi] at hN
  have hN' : NormIs intX 250 a a true := hN
  have hP : ∀ W : World, Hid (Calls Tryz.prog 70 #[.string a, .int .i64 10, .int .i64 64] W fun e w' => e = .returned (.tuple #[.int .i64 n, .nilIface]) ∧ Below W.heap.size W w') := fun W => (Tryz.strconv_ParseInt_10_at64_ok a (by omega) n hp W).mono fun e w' h => ⟨h.1, by
    rcases h.2 with rfl | ⟨t, rfl⟩
    · exact Below.refl _ _
    · exact Lib.bytesWorld_below W _ t⟩
  clear hN hi hp hz
  go_enter Tryz.func56, Tryz.ntmps56
  go_wp2_with fail
  rw [intAt]
  go_wp2_with fail
  refine (hN' W).mono ?_
  rintro e W1 ⟨rfl, hb1⟩
  have o1 : Hid (Below W.heap.size W W1) := hb1
  clear hN' hb1
  go_wp2_with fail
  refine (hP W1).out.mono ?_
  rintro e W2 ⟨rfl, hb2⟩
  have o2 : Hid (Below W.heap.size W W2) := o1.out.trans (hb2.mono o1.out.size)
  clear hP hb2
  go_upto_region 5 with fail
  go_region_held3 (fun w' => True) (first | go_keep | trivial) (fail)
  have o3 : Hid (Below W.heap.size W W2.drew) := o2.out.drew
  go_wp2_with fail
  go_ret2
  exact ⟨⟨_, rfl, fun _ => rfl⟩, o3.out⟩
set_option maxRecDepth 100000 in
set_option maxHeartbeats 1000000 in
theorem word_far (ev : Value) (hev : IsI ev) (a : ByteArray) (hz : a.size ≤ 1099511627776) (hi : intOk a.data.toList = true) (hp : Lib.parseIntB 64 a.data.toList = .range) : WordIs ev a 0 false := fun W hE => by
  have hN := intN_any a
  rw [hi] at hN
  have hN' : NormIs intX 250 a a true := hN
  have hP : ∀ W : World, ErrV ev W → Hid (Calls Tryz.prog 70 #[.string a, .int .i64 10, .int .i64 64] W fun e w' => (∃ N m, e = .returned (.tuple #[.int .i64 m, .iface 177 (.pointer (some ⟨N, 0, none⟩))])) ∧ Below W.heap.size W w') := fun W hE => (Tryz.strconv_ParseInt_10_at64_range a (by omega) hp ev W hE hev).mono fun e w' h => by
    obtain ⟨N, h1, _, _, h2⟩ := h
    exact ⟨⟨N, _, h1⟩, h2⟩
  clear hN hi hp hz hev
  have hE' : Hid (ErrV ev W) := hE
  clear hE
  go_enter Tryz.func56, Tryz.ntmps56
  go_wp2_with fail
  rw [intAt]
  go_wp2_with fail
  refine (hN' W).mono ?_
  rintro e W1 ⟨rfl, hb1⟩
  have o1 : Hid (Below W.heap.size W W1) := hb1
  have hP1 := hP W1 (hE'.out.below hb1)
  clear hN' hb1 hP hE'
  go_wp2_with fail
  refine hP1.out.mono ?_
  rintro e W2 ⟨⟨N, m, rfl⟩, hb2⟩
  have o2 : Hid (Below W.heap.size W W2) := o1.out.trans (hb2.mono o1.out.size)
  clear hP1 hb2
  go_upto_region 5 with fail
  go_region_held3 (fun w' => True) (first | go_keep | trivial) (fail)
  have o3 : Hid (Below W.heap.size W W2.drew) := o2.out.drew
  go_wp2_with fail
  go_ret2
  exact ⟨⟨_, rfl, fun h => by cases h⟩, o3.out⟩
def AsksW (ff : FuncId) (p : Int → Int → Bool) : Prop := ∀ (x y : Int) (W : World), Calls Tryz.prog ff #[.int .i64 x, .int .i64 y] W fun e w' => e = .returned (.bool (p x y)) ∧ w' = W
def WrdCls (ff : FuncId) (n : Int) (ok : Bool) (W : World) (c : Value) : Prop := ∃ g1 g2 g3 m, c = .func (.func 57) #[] #[.pointer (some ⟨g1, 0, none⟩), .pointer (some ⟨g2, 0, none⟩), .pointer (some ⟨g3, 0, none⟩)] ∧ W.cell? ⟨g1, 0, none⟩ = some intV ∧ W.cell? ⟨g2, 0, none⟩ = some (.func (.func ff) #[] #[]) ∧ W.cell? ⟨g3, 0, none⟩ = some (.int .i64 m) ∧ (ok = true → m = n)
set_option maxRecDepth 100000 in
set_option maxHeartbeats 2000000 in
theorem ofWords_any (ev : Value) (ff : FuncId) (a : ByteArray) (n : Int) (ok : Bool) (hA : WordIs ev a n ok) (w : World) (hE : ErrV ev w) : Calls Tryz.prog 39 #[intV, .string a, .func (.func ff) #[] #[]] w fun e w' => (∃ c, e = .returned (.tuple #[c, .bool ok]) ∧ WrdCls ff n ok w' c) ∧ Below w.heap.size w w' := by
  obtain ⟨W0, hW0⟩ : ∃ W0, (w.alloc (.cells #[intV] 38)).alloc (.cells #[.func (.func ff) #[] #[]] 91) = W0 := ⟨_, rfl⟩
  obtain ⟨c1, c2, hB0⟩ : W0.cell? ⟨w.heap.size, 0, none⟩ = some intV ∧ W0.cell? ⟨w.heap.size + 1, 0, none⟩ = some (.func (.func ff) #[] #[]) ∧ Below w.heap.size w W0 := by rw [← hW0]; exact two_cells w _ _ _ _
  have hB0' : Hid (Below w.heap.size w W0) := hB0
  have hc2 : Hid (W0.cell? ⟨w.heap.size + 1, 0, none⟩ = some (.func (.func ff) #[] #[])) := c2
  have hA0 : Hid (Calls Tryz.prog 56 #[intV, .string a] W0 fun e w' => (∃ m, e = .returned (.tuple #[.int .i64 m, .bool ok]) ∧ (ok = true → m = n)) ∧ Below W0.heap.size W0 w') := hA W0 (hE.below hB0)
  clear hB0 c2 hA hE
  go_enter Tryz.func39, Tryz.ntmps39
  go_wp2_with fail
  refine hA0.out.mono ?_
  rintro e W1 ⟨⟨m, rfl, hm⟩, hb1⟩
  have o1 : Hid (Below w.heap.size w W1) := hB0'.out.trans (hb1.mono hB0'.out.size)
  have d1 := (hb1.cell (World.block_lt_of_cell? W0 _ c1)).trans c1
  have d2 := (hb1.cell (World.block_lt_of_cell? W0 _ hc2.out)).trans hc2.out
  obtain ⟨W2, hW2⟩ : ∃ W2, W1.alloc (.cells #[.int .i64 m] 2) = W2 := ⟨_, rfl⟩
  have hB2 : Below W1.heap.size W1 W2 := by rw [← hW2]; exact (Below.refl _ _).alloc (Nat.le_refl _) _
  have e3 : W2.cell? ⟨W1.heap.size, 0, none⟩ = some (.int .i64 m) := by rw [← hW2]; simp [go_sem]
  have hk : Hid (WrdCls ff n ok W2 (.func (.func 57) #[] #[.pointer (some ⟨w.heap.size, 0, none⟩), .pointer (some ⟨w.heap.size + 1, 0, none⟩), .pointer (some ⟨W1.heap.size, 0, none⟩)])) := ⟨_, _, _, m, rfl, (hB2.cell (World.block_lt_of_cell? W1 _ d1)).trans d1, (hB2.cell (World.block_lt_of_cell? W1 _ d2)).trans d2, e3, hm⟩
  have o2 : Hid (Below w.heap.size w W2) := o1.out.trans (hB2.mono o1.out.size)
  clear hB2 hb1 c1 hc2 hB0' hW0 d1 d2 e3 o1 hA0
  go_wp2_with fail
  go_ret2
  exact ⟨⟨_, rfl, hk.out⟩, o2.out⟩
set_option maxRecDepth 100000 in
set_option maxHeartbeats 1000000 in
theorem wrdTest_any (ev : Value) (ff : FuncId) (p : Int → Int → Bool) (hp : AsksW ff p) (hw : WalkedAt ff) (g1 g2 g3 : Nat) (v : ByteArray) (m x : Int) (b : Bool) (hV : WordIs ev v x b) (w : World) (hE : ErrV ev w) (h1 : w.cell? ⟨g1, 0, none⟩ = some intV) (h2 : w.cell? ⟨g2, 0, none⟩ = some (.func (.func ff) #[] #[])) (h3 : w.cell? ⟨g3, 0, none⟩ = some (.int .i64 m)) :
    Calls Tryz.prog 57 #[.string v, .pointer (some ⟨g1, 0, none⟩), .pointer (some ⟨g2, 0, none⟩), .pointer (some ⟨g3, 0, none⟩)] w fun e w' => e = .returned (.bool (b && p x m)) ∧ Below w.heap.size w w' := by
  have hk2 : Hid (w.cell? ⟨g2, 0, none⟩ = some (.func (.func ff) #[] #[]) ∧ w.cell? ⟨g3, 0, none⟩ = some (.int .i64 m)) := ⟨h2, h3⟩
  have hV0 : Hid (Calls Tryz.prog 56 #[intV, .string v] w fun e w' => (∃ m, e = .returned (.tuple #[.int .i64 m, .bool b]) ∧ (b = true → m = x)) ∧ Below w.heap.size w w') := hV w hE
  have hP : Hid (∀ W, Calls Tryz.prog ff #[.int .i64 x, .int .i64 m] W fun e w' => e = .returned (.bool (p x m)) ∧ w' = W) := hp x m
  have hm3 : ∀ W, Sem.run Tryz.prog (callFunc ff #[.int .i64 x, .int .i64 m]) W = .ok (.enter ff #[.int .i64 x, .int .i64 m]) W := fun W => hw _ _
  clear h2 h3 hV hE hp hw
  go_enter Tryz.func57, Tryz.ntmps57
  go_wp2_with fail
  refine hV0.out.mono ?_
  rintro e W1 ⟨⟨y, rfl, hy⟩, hb1⟩
  have o1 : Hid (Below w.heap.size w W1) := hb1
  have c2 := (hb1.cell (World.block_lt_of_cell? w _ hk2.out.1)).trans hk2.out.1
  have c3 := (hb1.cell (World.block_lt_of_cell? w _ hk2.out.2)).trans hk2.out.2
  clear hb1 h1 hk2 hV0
  cases b
  · go_wp2_with fail
    go_ret
    exact ⟨rfl, o1.out⟩
  · obtain rfl : y = x := hy rfl
    go_wp2_with fail
    refine (hP.out _).mono ?_
    rintro e W2 ⟨rfl, rfl⟩
    go_wp2_with fail
    go_ret
    exact ⟨rfl, o1.out⟩
set_option maxRecDepth 100000 in
set_option maxHeartbeats 1000000 in
theorem verdictW_any (ev : Value) (c : Value) (ok : Bool) (ff : FuncId) (p : Int → Int → Bool) (hp : AsksW ff p) (hw : WalkedAt ff) (v : ByteArray) (n x : Int) (b : Bool) (hV : WordIs ev v x b) (w : World) (hE : ErrV ev w) (hc : WrdCls ff n ok w c) :
    Calls Tryz.prog 14 #[c, .bool ok, .string v] w fun e w' => e = .returned (tvE ok (b && p x n)) ∧ Below w.heap.size w w' := by
  obtain ⟨g1, g2, g3, m, rfl, h1, h2, h3, hm⟩ := hc
  have hT := wrdTest_any ev ff p hp hw g1 g2 g3 v m x b hV w hE h1 h2 h3
  clear h1 h2 h3 hp hw hV hE
  cases ok
  · clear hT
    generalize (b && p x n) = z
    go_enter Tryz.func14, Tryz.ntmps14
    go_wp2_with fail
    go_ret
    exact ⟨rfl, Below.refl _ _⟩
  · obtain rfl : m = n := hm rfl
    generalize (b && p x m) = z at *
    go_enter Tryz.func14, Tryz.ntmps14
    go_wp2_with fail
    refine hT.mono ?_
    rintro e W1 ⟨rfl, hb1⟩
    have o1 : Hid (Below w.heap.size w W1) := hb1
    clear hT hb1
    cases z
    · go_wp2_with fail
      go_ret
      exact ⟨rfl, o1.out⟩
    · go_wp2_with fail
      go_ret
      exact ⟨rfl, o1.out⟩
end Go.Proofs.YtjokpcggdaoleaaGreatDoor
