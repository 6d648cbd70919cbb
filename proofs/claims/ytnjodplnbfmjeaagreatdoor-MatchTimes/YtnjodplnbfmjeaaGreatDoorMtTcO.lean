import Derived.Test.YtnjodplnbfmjeaaGreatDoorMtIntN
import Derived.Test.YtnjodplnbfmjeaaGreatDoorMtTmL
import Derived.Deep.DeepCutAuto
import Derived.Deep.RegionHeld3
namespace Go.Proofs.YtnjodplnbfmjeaaGreatDoor
open Go.RowKit
set_option linter.unusedVariables false
namespace Tc
open Mt (TbW tmX)

abbrev tmV : Value := .iface 78 tmX
set_option maxRecDepth 100000 in
theorem intOrdAt (n : Nat) (W : World) : Sem.run Tryz.prog (method (n + 1) 78 tmX "roster/match.ordered") W = .ok (218, tmX) W := by kernel_rfl
set_option maxRecDepth 100000 in
theorem intCmpAt (n : Nat) (W : World) : Sem.run Tryz.prog (method (n + 1) 78 tmX "roster/match.compare") W = .ok (217, tmX) W := by kernel_rfl
set_option maxRecDepth 100000 in
theorem intCmpWalked : WalkedAt 217 := fun args W => by kernel_rfl
set_option maxRecDepth 100000 in
theorem intOrdWalked : WalkedAt 218 := fun args W => by kernel_rfl
/-- A syntax's normal in every world behind w. -/
def NormB (x : Value) (fn : FuncId) (a na : ByteArray) (b : Bool) (w : World) : Prop := ∀ W, Below w.heap.size w W → NormAt x fn a na b W
theorem NormB.below {x : Value} {fn : FuncId} {a na : ByteArray} {b : Bool} {w W : World} (h : NormB x fn a na b w) (hb : Below w.heap.size w W) : NormB x fn a na b W := fun W' hb' => h W' (hb.trans (hb'.mono hb.size))
theorem tmCmp_any (a b : ByteArray) (w : World) : Calls Tryz.prog 217 #[tmX, .string a, .string b] w fun e w' => e = .returned (.int .i64 (Lib.compareBytes a.data.toList b.data.toList)) ∧ Below w.heap.size w w' := by
  have hB : Hid (Below w.heap.size w (w.alloc (.cells #[] 55))) := (Below.refl _ _).alloc (Nat.le_refl _) _
  have h4 : ∀ W, Hid (Calls Tryz.prog 82 #[.string a, .string b] W fun e w' => e = .returned (.int .i64 (Lib.compareBytes a.data.toList b.data.toList)) ∧ w' = W) := fun W => Tryz.strings_Compare a b W
  generalize Lib.compareBytes a.data.toList b.data.toList = r2 at *
  go_enter Tryz.func217, Tryz.ntmps217
  go_wp2_with (go_at_call 82; refine (h4 _).out.mono ?_; rintro e w' ⟨rfl, rfl⟩)
  go_ret
  exact ⟨rfl, hB.out⟩
theorem intOrd_any (w : World) : Calls Tryz.prog 218 #[tmX] w fun e w' => e = .returned (.bool true) ∧ Below w.heap.size w w' := by
  have hB : Hid (Below w.heap.size w (w.alloc (.cells #[] 55))) := (Below.refl _ _).alloc (Nat.le_refl _) _
  go_enter Tryz.func218, Tryz.ntmps218
  go_wp2_with fail
  go_ret
  exact ⟨rfl, hB.out⟩
/-- A function value that asks of an order. -/
def Asks (ff : FuncId) (p : Int → Bool) : Prop := ∀ (o : Int) (W : World), Calls Tryz.prog ff #[.int .i64 o] W fun e w' => e = .returned (.bool (p o)) ∧ w' = W
/-- The closure that 'compared' lays. -/
def CmpCls1 (W : World) (g3 g4 g5 : Nat) (ff : FuncId) (a : ByteArray) : Prop := W.cell? ⟨g3, 0, none⟩ = some (.func (.func ff) #[] #[]) ∧ W.cell? ⟨g4, 0, none⟩ = some tmV ∧ W.cell? ⟨g5, 0, none⟩ = some (.string a)
def CmpCls (W : World) (c : Value) (ff : FuncId) (a : ByteArray) : Prop := ∃ g1 g2 g3 g4 g5, c = .func (.func 27) #[] #[.pointer (some ⟨g1, 0, none⟩), .pointer (some ⟨g2, 0, none⟩)] ∧ W.cell? ⟨g1, 0, none⟩ = some tmV ∧ W.cell? ⟨g2, 0, none⟩ = some (.func (.func 24) #[] #[.pointer (some ⟨g3, 0, none⟩), .pointer (some ⟨g4, 0, none⟩), .pointer (some ⟨g5, 0, none⟩)]) ∧ CmpCls1 W g3 g4 g5 ff a
theorem CmpCls1.below {W W' : World} {g3 g4 g5 : Nat} {ff : FuncId} {a : ByteArray} (h : CmpCls1 W g3 g4 g5 ff a) (hb : Below W.heap.size W W') : CmpCls1 W' g3 g4 g5 ff a :=
  ⟨(hb.cell (World.block_lt_of_cell? W _ h.1)).trans h.1, (hb.cell (World.block_lt_of_cell? W _ h.2.1)).trans h.2.1, (hb.cell (World.block_lt_of_cell? W _ h.2.2)).trans h.2.2⟩
theorem CmpCls.below {W W' : World} {c : Value} {ff : FuncId} {a : ByteArray} (h : CmpCls W c ff a) (hb : Below W.heap.size W W') : CmpCls W' c ff a := by
  obtain ⟨g1, g2, g3, g4, g5, e, h1, h2, h3⟩ := h
  exact ⟨g1, g2, g3, g4, g5, e, (hb.cell (World.block_lt_of_cell? W _ h1)).trans h1, (hb.cell (World.block_lt_of_cell? W _ h2)).trans h2, h3.below hb⟩
set_option maxRecDepth 100000 in
set_option maxHeartbeats 2000000 in
theorem cmp1_any (g3 g4 g5 : Nat) (ff : FuncId) (p : Int → Bool) (hp : Asks ff p) (hw : WalkedAt ff) (v a : ByteArray) (w : World) (h : CmpCls1 w g3 g4 g5 ff a) :
    Calls Tryz.prog 24 #[.string v, .pointer (some ⟨g3, 0, none⟩), .pointer (some ⟨g4, 0, none⟩), .pointer (some ⟨g5, 0, none⟩)] w fun e w' => e = .returned (.bool (p (Lib.compareBytes v.data.toList a.data.toList))) ∧ Below w.heap.size w w' := by
  obtain ⟨h3, h4, h5⟩ := h
  have z3 := World.block_lt_of_cell? w _ h3
  have z4 := World.block_lt_of_cell? w _ h4
  have z5 := World.block_lt_of_cell? w _ h5
  have hC : ∀ W, Hid (Calls Tryz.prog 217 #[tmX, .string v, .string a] W fun e w' => e = .returned (.int .i64 (Lib.compareBytes v.data.toList a.data.toList)) ∧ Below W.heap.size W w') := fun W => tmCmp_any v a W
  have hP : ∀ o W, Hid (Calls Tryz.prog ff #[.int .i64 o] W fun e w' => e = .returned (.bool (p o)) ∧ w' = W) := hp
  clear hp
  generalize Lib.compareBytes v.data.toList a.data.toList = r at *
  go_enter Tryz.func24, Tryz.ntmps24
  have hm406 : Sem.run Tryz.prog (method 406 78 tmX "roster/match.compare") w.drew = .ok (217, tmX) w.drew := intCmpAt 405 w.drew
  have hm427 : Sem.run Tryz.prog (method 427 78 tmX "roster/match.compare") w.drew = .ok (217, tmX) w.drew := intCmpAt 426 w.drew
  have hm432 : Sem.run Tryz.prog (method 432 78 tmX "roster/match.compare") w.drew = .ok (217, tmX) w.drew := intCmpAt 431 w.drew
  have hm2 : Sem.run Tryz.prog (callFunc 217 #[tmX, .string v, .string a]) w.drew = .ok (.enter 217 #[tmX, .string v, .string a]) w.drew := intCmpWalked _ _
  have hm3 : ∀ W, Sem.run Tryz.prog (callFunc ff #[.int .i64 r]) W = .ok (.enter ff #[.int .i64 r]) W := fun W => hw _ _
  clear hw
  go_upto_region 1 with fail
  go_region_held3 (fun w' => w'.cell? ⟨g3, 0, none⟩ = some (.func (.func ff) #[] #[]) ∧ w'.cell? ⟨g4, 0, none⟩ = some tmV ∧ w'.cell? ⟨g5, 0, none⟩ = some (.string a))
    (first | go_keep | exact ⟨(hb4.cell (by simpa using z3)).trans (by simpa using h3), (hb4.cell (by simpa using z4)).trans (by simpa using h4), (hb4.cell (by simpa using z5)).trans (by simpa using h5)⟩)
    (first | (go_at_call 217; refine (hC _).out.mono ?_; rintro e W4 ⟨rfl, hb4⟩) | (refine (hP _ _).out.mono ?_; rintro e W5 ⟨rfl, rfl⟩))
  clear hm406 hm427 hm432 hm2 hm3 h3 h4 h5 z3 z4 z5
  have hb5 : Hid (Below w.heap.size w W5) := ((Below.refl w.heap.size w).drew).trans hb4
  clear hb4
  go_wp2_with fail
  go_ret
  exact ⟨rfl, hb5.out⟩
set_option maxRecDepth 100000 in
set_option maxHeartbeats 2000000 in
theorem compared_any (ff : FuncId) (a na : ByteArray) (b : Bool) (w : World) (hN : NormB tmX 272 a na b w) : Calls Tryz.prog 17 #[tmV, .string a, .func (.func ff) #[] #[]] w fun e w' => (∃ c, e = .returned (.tuple #[c, .bool b]) ∧ CmpCls w' c ff na) ∧ Below w.heap.size w w' := by
  obtain ⟨W0, hW0⟩ : ∃ W0, (w.alloc (.cells #[tmV] 40)).alloc (.cells #[.func (.func ff) #[] #[]] 44) = W0 := ⟨_, rfl⟩
  obtain ⟨c1, c2, hB0⟩ : W0.cell? ⟨w.heap.size, 0, none⟩ = some tmV ∧ W0.cell? ⟨w.heap.size + 1, 0, none⟩ = some (.func (.func ff) #[] #[]) ∧ Below w.heap.size w W0 := by rw [← hW0]; exact two_cells w _ _ _ _
  have hB0' : Hid (Below w.heap.size w W0) := hB0
  have hc2 : Hid (W0.cell? ⟨w.heap.size + 1, 0, none⟩ = some (.func (.func ff) #[] #[])) := c2
  clear hB0 c2
  go_enter Tryz.func17, Tryz.ntmps17
  go_wp2_with fail
  rw [Mt.tmAt]
  go_wp2_with fail
  refine Calls.mono (hN W0 hB0'.out) ?_
  rintro e W1 ⟨rfl, hb1⟩
  have o1 : Hid (Below w.heap.size w W1) := hB0'.out.trans (hb1.mono hB0'.out.size)
  have d1 := (hb1.cell (World.block_lt_of_cell? W0 _ c1)).trans c1
  have d2 := (hb1.cell (World.block_lt_of_cell? W0 _ hc2.out)).trans hc2.out
  obtain ⟨W2, hW2⟩ : ∃ W2, W1.alloc (.cells #[.string na] 9) = W2 := ⟨_, rfl⟩
  have hB2 : Below W1.heap.size W1 W2 := by rw [← hW2]; exact (Below.refl _ _).alloc (Nat.le_refl _) _
  have e3 : W2.cell? ⟨W1.heap.size, 0, none⟩ = some (.string na) := by rw [← hW2]; simp [go_sem]
  have e1 := (hB2.cell (World.block_lt_of_cell? W1 _ d1)).trans d1
  have hk : Hid (CmpCls1 W2 (w.heap.size + 1) w.heap.size W1.heap.size ff na) := ⟨(hB2.cell (World.block_lt_of_cell? W1 _ d2)).trans d2, e1, e3⟩
  have o2 : Hid (Below w.heap.size w W2) := o1.out.trans (hB2.mono o1.out.size)
  clear hB2 hb1 c1 hc2 hB0' hW0 d1 d2 e3 o1 hN
  go_wp2_with fail
  refine (ofNormalG_any 78 tmX 24 #[.pointer (some ⟨w.heap.size + 1, 0, none⟩), .pointer (some ⟨w.heap.size, 0, none⟩), .pointer (some ⟨W1.heap.size, 0, none⟩)] W2).mono ?_
  rintro e W3 ⟨rfl, h1, h2, hb3⟩
  have o3 : Hid (Below w.heap.size w W3) := o2.out.trans (hb3.mono o2.out.size)
  have f1 := (hb3.cell (World.block_lt_of_cell? W2 _ e1)).trans e1
  have hc : Hid (CmpCls W3 (.func (.func 27) #[] #[.pointer (some ⟨W2.heap.size, 0, none⟩), .pointer (some ⟨W2.heap.size + 1, 0, none⟩)]) ff na) := ⟨_, _, _, _, _, rfl, h1, h2, hk.out.below hb3⟩
  clear h1 h2 hb3 hW2 e1 hk
  cases b
  · go_wp2_with fail
    go_ret2
    exact ⟨⟨_, rfl, hc.out⟩, o3.out⟩
  · go_wp2_with fail
    rw [intOrdAt]
    go_wp2_with fail
    refine (intOrd_any W3).mono ?_
    rintro e W4 ⟨rfl, hb4⟩
    have o4 : Hid (Below w.heap.size w W4) := o3.out.trans (hb4.mono o3.out.size)
    have hc4 : Hid (CmpCls W4 (.func (.func 27) #[] #[.pointer (some ⟨W2.heap.size, 0, none⟩), .pointer (some ⟨W2.heap.size + 1, 0, none⟩)]) ff na) := hc.out.below hb4
    clear hb4 hc o3 f1
    go_wp2_with fail
    go_ret2
    exact ⟨⟨_, rfl, hc4.out⟩, o4.out⟩
set_option maxRecDepth 100000 in
set_option maxHeartbeats 1000000 in
theorem cmpTest_any (g1 g2 g3 g4 g5 : Nat) (ff : FuncId) (p : Int → Bool) (hp : Asks ff p) (hw : WalkedAt ff) (v nv a : ByteArray) (b : Bool) (w : World) (hN : NormB tmX 272 v nv b w) (h1 : w.cell? ⟨g1, 0, none⟩ = some tmV) (h2 : w.cell? ⟨g2, 0, none⟩ = some (.func (.func 24) #[] #[.pointer (some ⟨g3, 0, none⟩), .pointer (some ⟨g4, 0, none⟩), .pointer (some ⟨g5, 0, none⟩)])) (h3 : CmpCls1 w g3 g4 g5 ff a) :
    Calls Tryz.prog 27 #[.string v, .pointer (some ⟨g1, 0, none⟩), .pointer (some ⟨g2, 0, none⟩)] w fun e w' => e = .returned (.bool (b && p (Lib.compareBytes nv.data.toList a.data.toList))) ∧ Below w.heap.size w w' := by
  have hk2 : Hid (w.cell? ⟨g2, 0, none⟩ = some (.func (.func 24) #[] #[.pointer (some ⟨g3, 0, none⟩), .pointer (some ⟨g4, 0, none⟩), .pointer (some ⟨g5, 0, none⟩)]) ∧ CmpCls1 w g3 g4 g5 ff a) := ⟨h2, h3⟩
  have hC : ∀ W, CmpCls1 W g3 g4 g5 ff a → Hid (Calls Tryz.prog 24 #[.string nv, .pointer (some ⟨g3, 0, none⟩), .pointer (some ⟨g4, 0, none⟩), .pointer (some ⟨g5, 0, none⟩)] W fun e w' => e = .returned (.bool (p (Lib.compareBytes nv.data.toList a.data.toList))) ∧ Below W.heap.size W w') := fun W h => cmp1_any g3 g4 g5 ff p hp hw nv a W h
  clear h2 h3 hp hw
  generalize p (Lib.compareBytes nv.data.toList a.data.toList) = r at *
  go_enter Tryz.func27, Tryz.ntmps27
  go_wp2_with fail
  rw [Mt.tmAt]
  go_wp2_with fail
  refine Calls.mono (hN w (Below.refl _ _)) ?_
  rintro e W1 ⟨rfl, hb1⟩
  have o1 : Hid (Below w.heap.size w W1) := hb1
  have c2 := (hb1.cell (World.block_lt_of_cell? w _ hk2.out.1)).trans hk2.out.1
  have hC1 := hC W1 (hk2.out.2.below hb1)
  clear hb1 h1 hC hk2 hN
  cases b
  · go_wp2_with fail
    go_ret
    exact ⟨rfl, o1.out⟩
  · go_wp2_with fail
    refine hC1.out.mono ?_
    rintro e W2 ⟨rfl, hb2⟩
    have o2 : Hid (Below w.heap.size w W2) := o1.out.trans (hb2.mono o1.out.size)
    clear hb2 c2 hC1
    go_wp2_with fail
    go_ret
    exact ⟨rfl, o2.out⟩
set_option maxRecDepth 100000 in
set_option maxHeartbeats 1000000 in
theorem verdictC_any (c : Value) (ok : Bool) (ff : FuncId) (p : Int → Bool) (hp : Asks ff p) (hw : WalkedAt ff) (v nv a : ByteArray) (b : Bool) (w : World) (hN : NormB tmX 272 v nv b w) (hc : CmpCls w c ff a) :
    Calls Tryz.prog 16 #[c, .bool ok, .string v] w fun e w' => e = .returned (tvE ok (b && p (Lib.compareBytes nv.data.toList a.data.toList))) ∧ Below w.heap.size w w' := by
  obtain ⟨g1, g2, g3, g4, g5, rfl, h1, h2, h3⟩ := hc
  have hT := cmpTest_any g1 g2 g3 g4 g5 ff p hp hw v nv a b w hN h1 h2 h3
  obtain ⟨z, hz⟩ : ∃ z, (b && p (Lib.compareBytes nv.data.toList a.data.toList)) = z := ⟨_, rfl⟩
  rw [hz] at hT
  rw [hz]
  clear hz h1 h2 h3 hp hw hN
  cases ok
  · go_enter Tryz.func16, Tryz.ntmps16
    go_wp2_with fail
    go_ret
    exact ⟨rfl, Below.refl _ _⟩
  · go_enter Tryz.func16, Tryz.ntmps16
    go_wp2_with fail
    refine hT.mono ?_
    rintro e W1 ⟨rfl, hb1⟩
    have o1 : Hid (Below w.heap.size w W1) := hb1
    clear hT hb1
    cases z
    · go_wp2_with fail
      go_ret
      exact ⟨rfl, o1.out⟩
    · go_wp2_with fail
      go_ret
      exact ⟨rfl, o1.out⟩
set_option maxRecDepth 100000 in
theorem leastWalked : WalkedAt 18 := fun args W => by kernel_rfl
set_option maxRecDepth 100000 in
theorem mostWalked : WalkedAt 19 := fun args W => by kernel_rfl
theorem leastAsks : Asks 18 (fun o => decide ((0 : Int) ≤ o)) := fun o W => by
  go_enter Tryz.func18, Tryz.ntmps18
  go_wp2_with fail
  go_ret
  exact ⟨rfl, rfl⟩
theorem mostAsks : Asks 19 (fun o => decide ((0 : Int) ≥ o)) := fun o W => by
  go_enter Tryz.func19, Tryz.ntmps19
  go_wp2_with fail
  go_ret
  exact ⟨rfl, rfl⟩
set_option maxRecDepth 100000 in
set_option maxHeartbeats 1000000 in
theorem least_any (v nv a na : ByteArray) (bv ba : Bool) (w : World) (hv : NormB tmX 272 v nv bv w) (ha : NormB tmX 272 a na ba w) :
    Calls Tryz.prog 9 #[.int .i64 12, .string v, .string a] w fun e w' => e = .returned (tvE ba (bv && decide ((0 : Int) ≤ (Lib.compareBytes nv.data.toList na.data.toList)))) ∧ Below w.heap.size w w' := by
  have hS' : ∀ W : World, Hid (Calls Tryz.prog 15 #[.int .i64 12] W fun e w' => e = .returned tmV ∧ w' = W) := Mt.synTm
  have hQ : Hid (Calls Tryz.prog 17 #[tmV, .string a, .func (.func 18) #[] #[]] w fun e w' => (∃ c, e = .returned (.tuple #[c, .bool ba]) ∧ CmpCls w' c 18 na) ∧ Below w.heap.size w w') := compared_any _ a na ba w ha
  have hV : ∀ (c : Value) (W : World), Below w.heap.size w W → CmpCls W c 18 na → Hid (Calls Tryz.prog 16 #[c, .bool ba, .string v] W fun e w' => e = .returned (tvE ba (bv && decide ((0 : Int) ≤ (Lib.compareBytes nv.data.toList na.data.toList)))) ∧ Below W.heap.size W w') := fun c W hb hc => verdictC_any c ba _ (fun o => decide ((0 : Int) ≤ o)) leastAsks leastWalked v nv na bv W (hv.below hb) hc
  generalize tvE ba (bv && decide ((0 : Int) ≤ (Lib.compareBytes nv.data.toList na.data.toList))) = res at *
  clear hv ha
  go_enter Tryz.func9, Tryz.ntmps9
  go_wp2_with fail
  refine (hS' w).out.mono ?_
  rintro e w0 ⟨rfl, hww⟩
  obtain rfl := hww.symm
  clear hS' hww
  go_wp2_with fail
  refine hQ.out.mono ?_
  rintro e W1 ⟨⟨c, rfl, hc⟩, hb1⟩
  have o1 : Hid (Below w.heap.size w W1) := hb1
  have hV1 := (hV c W1 hb1 hc).out
  clear hQ hV hc hb1
  go_wp2_with fail
  refine hV1.mono ?_
  rintro e W2 ⟨rfl, hb2⟩
  have o2 : Hid (Below w.heap.size w W2) := o1.out.trans (hb2.mono o1.out.size)
  clear hV1 hb2
  go_wp2_with fail
  go_ret
  exact ⟨rfl, o2.out⟩
set_option maxRecDepth 100000 in
set_option maxHeartbeats 1000000 in
theorem most_any (v nv a na : ByteArray) (bv ba : Bool) (w : World) (hv : NormB tmX 272 v nv bv w) (ha : NormB tmX 272 a na ba w) :
    Calls Tryz.prog 10 #[.int .i64 12, .string v, .string a] w fun e w' => e = .returned (tvE ba (bv && decide ((0 : Int) ≥ (Lib.compareBytes nv.data.toList na.data.toList)))) ∧ Below w.heap.size w w' := by
  have hS' : ∀ W : World, Hid (Calls Tryz.prog 15 #[.int .i64 12] W fun e w' => e = .returned tmV ∧ w' = W) := Mt.synTm
  have hQ : Hid (Calls Tryz.prog 17 #[tmV, .string a, .func (.func 19) #[] #[]] w fun e w' => (∃ c, e = .returned (.tuple #[c, .bool ba]) ∧ CmpCls w' c 19 na) ∧ Below w.heap.size w w') := compared_any _ a na ba w ha
  have hV : ∀ (c : Value) (W : World), Below w.heap.size w W → CmpCls W c 19 na → Hid (Calls Tryz.prog 16 #[c, .bool ba, .string v] W fun e w' => e = .returned (tvE ba (bv && decide ((0 : Int) ≥ (Lib.compareBytes nv.data.toList na.data.toList)))) ∧ Below W.heap.size W w') := fun c W hb hc => verdictC_any c ba _ (fun o => decide ((0 : Int) ≥ o)) mostAsks mostWalked v nv na bv W (hv.below hb) hc
  generalize tvE ba (bv && decide ((0 : Int) ≥ (Lib.compareBytes nv.data.toList na.data.toList))) = res at *
  clear hv ha
  go_enter Tryz.func10, Tryz.ntmps10
  go_wp2_with fail
  refine (hS' w).out.mono ?_
  rintro e w0 ⟨rfl, hww⟩
  obtain rfl := hww.symm
  clear hS' hww
  go_wp2_with fail
  refine hQ.out.mono ?_
  rintro e W1 ⟨⟨c, rfl, hc⟩, hb1⟩
  have o1 : Hid (Below w.heap.size w W1) := hb1
  have hV1 := (hV c W1 hb1 hc).out
  clear hQ hV hc hb1
  go_wp2_with fail
  refine hV1.mono ?_
  rintro e W2 ⟨rfl, hb2⟩
  have o2 : Hid (Below w.heap.size w W2) := o1.out.trans (hb2.mono o1.out.size)
  clear hV1 hb2
  go_wp2_with fail
  go_ret
  exact ⟨rfl, o2.out⟩
end Tc
end Go.Proofs.YtnjodplnbfmjeaaGreatDoor
