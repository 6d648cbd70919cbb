import Derived.Test.YtjokpcggdaoleaaGreatDoorMtIntB
namespace Go.Proofs.YtjokpcggdaoleaaGreatDoor
open Go.RowKit
set_option linter.unusedVariables false

theorem ErrV.below' {ev : Value} {n : Nat} {W W' : World} (h : ErrV ev W) (hb : Below n W W') (hn : n = W.heap.size := by rfl) : ErrV ev W' := by subst hn; exact h.below hb
theorem ErrV.drew {ev : Value} {W : World} (h : ErrV ev W) : ErrV ev W.drew := h
def pOne (x y : Int) : Bool := bits .and .i64 x y != 0
def pAll (x y : Int) : Bool := bits .and .i64 x y == y
set_option maxRecDepth 100000 in
theorem oneWalked : WalkedAt 41 := fun args W => by kernel_rfl
theorem oneAsks : AsksW 41 pOne := fun x y W => by
  go_enter Tryz.func41, Tryz.ntmps41
  go_wp2_with fail
  go_ret
  exact ⟨rfl, rfl⟩
set_option maxRecDepth 100000 in
theorem oneBit_any (ev : Value) (a : ByteArray) (n : Int) (ok : Bool) (hA : WordIs ev a n ok) (w : World) (hE : ErrV ev w) : Calls Tryz.prog 30 #[intV, .string a] w fun e w' => (∃ c, e = .returned (.tuple #[c, .bool ok]) ∧ WrdCls 41 n ok w' c) ∧ Below w.heap.size w w' := by
  have h := ofWords_any ev 41 a n ok hA w hE
  clear hA hE
  go_enter Tryz.func30, Tryz.ntmps30
  go_wp2_with fail
  refine h.mono ?_
  rintro e W1 ⟨⟨c, rfl, hc⟩, hb1⟩
  have hc' : Hid (WrdCls 41 n ok W1 c ∧ Below w.heap.size w W1) := ⟨hc, hb1⟩
  clear h hc hb1
  go_wp2_with fail
  go_ret2
  exact ⟨⟨_, rfl, hc'.out.1⟩, hc'.out.2⟩
set_option maxRecDepth 100000 in
theorem allWalked : WalkedAt 40 := fun args W => by kernel_rfl
theorem allAsks : AsksW 40 pAll := fun x y W => by
  go_enter Tryz.func40, Tryz.ntmps40
  go_wp2_with fail
  go_ret
  exact ⟨rfl, rfl⟩
set_option maxRecDepth 100000 in
theorem allBits_any (ev : Value) (a : ByteArray) (n : Int) (ok : Bool) (hA : WordIs ev a n ok) (w : World) (hE : ErrV ev w) : Calls Tryz.prog 29 #[intV, .string a] w fun e w' => (∃ c, e = .returned (.tuple #[c, .bool ok]) ∧ WrdCls 40 n ok w' c) ∧ Below w.heap.size w w' := by
  have h := ofWords_any ev 40 a n ok hA w hE
  clear hA hE
  go_enter Tryz.func29, Tryz.ntmps29
  go_wp2_with fail
  refine h.mono ?_
  rintro e W1 ⟨⟨c, rfl, hc⟩, hb1⟩
  have hc' : Hid (WrdCls 40 n ok W1 c ∧ Below w.heap.size w W1) := ⟨hc, hb1⟩
  clear h hc hb1
  go_wp2_with fail
  go_ret2
  exact ⟨⟨_, rfl, hc'.out.1⟩, hc'.out.2⟩
set_option maxRecDepth 100000 in
theorem aheadWalked : WalkedAt 38 := fun args W => by kernel_rfl
theorem aheadAsks : Asks 38 (fun o => decide (o < 0)) := fun o W => by
  go_enter Tryz.func38, Tryz.ntmps38
  go_wp2_with fail
  go_ret
  exact ⟨rfl, rfl⟩
set_option maxRecDepth 100000 in
theorem ahead_any (a : ByteArray) (w : World) : Calls Tryz.prog 28 #[intV, .string a] w fun e w' => (∃ c, e = .returned (.tuple #[c, .bool (intOk a.data.toList)]) ∧ CmpCls w' c 38 (nrm (intOk a.data.toList) a)) ∧ Below w.heap.size w w' := by
  have h := compared_any 38 a _ _ (intN_any a) w
  generalize nrm (intOk a.data.toList) a = na at *
  generalize intOk a.data.toList = ok at *
  go_enter Tryz.func28, Tryz.ntmps28
  go_wp2_with fail
  refine h.mono ?_
  rintro e W1 ⟨⟨c, rfl, hc⟩, hb1⟩
  have hc' : Hid (CmpCls W1 c 38 na ∧ Below w.heap.size w W1) := ⟨hc, hb1⟩
  clear h hc hb1
  go_wp2_with fail
  go_ret2
  exact ⟨⟨_, rfl, hc'.out.1⟩, hc'.out.2⟩
set_option maxRecDepth 100000 in
set_option maxHeartbeats 4000000 in
theorem byRuleOne_any (ev : Value) (v a : ByteArray) (n x : Int) (ok b : Bool) (hA : WordIs ev a n ok) (hX : WordIs ev v x b) (w : World) (hE : ErrV ev w) :
    Calls Tryz.prog 8 #[.int .i64 20, .int .i64 7, .string v, .string a] w fun e w' => e = .returned (tvE ok (b && pOne x n)) ∧ Below w.heap.size w w' := by
  have hA' := hA
  have hE' : Hid (ErrV ev w) := hE
  clear hA hE
  have hA : Hid (Calls Tryz.prog 15 #[.int .i64 20] w fun e w' => (∃ n o, e = .returned (.tuple #[.agg #[.string n, .string o, .int .i64 7, .func (.func 30) #[] #[]], .bool true])) ∧ Below w.heap.size w w') := ruleAt_any 20 7 _ (by omega) (by omega) (fun cs h => h.2.2.2.2.1) w
  have hU : ∀ n o W, Hid (Calls Tryz.prog 16 #[.agg #[.string n, .string o, .int .i64 7, .func (.func 30) #[] #[]], .int .i64 7] W fun e w' => e = .returned (.bool true) ∧ Below W.heap.size W w') := fun n o W => suits_same n o 7 _ (by decide) (by decide) W
  have hQ : ∀ W : World, ErrV ev W → Hid (Calls Tryz.prog 30 #[intV, .string a] W fun e w' => (∃ c, e = .returned (.tuple #[c, .bool ok]) ∧ WrdCls 41 n ok w' c) ∧ Below W.heap.size W w') := fun W h => oneBit_any ev a n ok hA' W h
  have hV : ∀ (c : Value) (W : World), ErrV ev W → WrdCls 41 n ok W c → Hid (Calls Tryz.prog 14 #[c, .bool ok, .string v] W fun e w' => e = .returned (tvE ok (b && pOne x n)) ∧ Below W.heap.size W w') := fun c W h hc => verdictW_any ev c ok _ _ oneAsks oneWalked v n x b hX W h hc
  have hS' : ∀ W : World, Hid (Calls Tryz.prog 13 #[.int .i64 7] W fun e w' => e = .returned intV ∧ w' = W) := synInt
  generalize tvE ok (b && pOne x n) = res at *
  go_enter Tryz.func8, Tryz.ntmps8
  go_wp2_with fail
  refine hA.out.mono ?_
  rintro e W1 ⟨⟨n', o', rfl⟩, hb1⟩
  obtain ⟨W2, hW2⟩ : ∃ W2, W1.alloc (.cells #[.string n', .string o', .int .i64 7, .func (.func 30) #[] #[]] 42) = W2 := ⟨_, rfl⟩
  have G2 : W2.heap[W1.heap.size]? = some (.cells #[.string n', .string o', .int .i64 7, .func (.func 30) #[] #[]] 42 (0, 0)) := by rw [← hW2]; exact heap_alloc_last W1 _
  have hbx : Hid (Below w.heap.size w W2) := by unfold Hid; rw [← hW2]; exact hb1.alloc hb1.size _
  have hlt : W1.heap.size < W2.heap.size := (Array.getElem?_eq_some_iff.1 G2).1
  have c0 : W2.cell? ⟨W1.heap.size, 0, none⟩ = some (.string n') := by rw [cell_of_row W2 _ _ _ _ _ G2]; rfl
  have c1 : W2.cell? ⟨W1.heap.size, 1, none⟩ = some (.string o') := by rw [cell_of_row W2 _ _ _ _ _ G2]; rfl
  have c2 : W2.cell? ⟨W1.heap.size, 2, none⟩ = some (.int .i64 7) := by rw [cell_of_row W2 _ _ _ _ _ G2]; rfl
  have c3 : W2.cell? ⟨W1.heap.size, 3, none⟩ = some (.func (.func 30) #[] #[]) := by rw [cell_of_row W2 _ _ _ _ _ G2]; rfl
  have hlt' : Hid (W1.heap.size < W2.heap.size) := hlt
  have hst : (store ⟨W1.heap.size, 3, none⟩ (.func (.func 30) #[] #[])).run Tryz.prog (W1.alloc (.cells #[.string n', .string o', .int .i64 7, .nilFunc] 42)) = .ok () W2 := by
    rw [run_store Tryz.prog _ _ _ _ rfl, ← hW2]
    simp [go_sem]
  clear hA hb1 G2 hlt
  go_upto_region 4 with (go_at_call 16; refine (hU n' o' _).out.mono ?_; rintro e W3 ⟨rfl, hb3⟩)
  have d2 : W3.cell? ⟨W1.heap.size, 2, none⟩ = some (.int .i64 7) := (hb3.cell hlt'.out).trans c2
  have d3 : W3.cell? ⟨W1.heap.size, 3, none⟩ = some (.func (.func 30) #[] #[]) := (hb3.cell hlt'.out).trans c3
  have hz3 : W1.heap.size < W3.heap.size := Nat.lt_of_lt_of_le hlt'.out hb3.size
  have hby : Hid (Below w.heap.size w W3) := hbx.out.trans (hb3.mono hbx.out.size)
  have dE : Hid (ErrV ev W3) := hE'.out.below' hby.out
  clear c0 c1 c2 c3 hU hb3 hlt' hbx hW2
  go_region_held3 (fun w' => w'.cell? ⟨W1.heap.size, 2, none⟩ = some (.int .i64 7) ∧ w'.cell? ⟨W1.heap.size, 3, none⟩ = some (.func (.func 30) #[] #[]))
    (first | go_keep | exact ⟨(hb4.cell (by simpa using hz3)).trans (by simpa using d2), (hb4.cell (by simpa using hz3)).trans (by simpa using d3)⟩)
    (first | (go_at_call 13; refine (hS' _).out.mono ?_; rintro e w' ⟨rfl, rfl⟩) | (go_at_call 30; refine (hQ _ dE.out.drew).out.mono ?_; rintro e W4 ⟨⟨c, rfl, hc⟩, hb4⟩))
  have hV4 := hV c W4 (dE.out.drew.below hb4) hc
  have hb4' : Hid (Below w.heap.size w W4) := hby.out.trans ((((Below.refl W3.heap.size W3).drew).trans hb4).mono hby.out.size)
  clear hV hc hb4 hQ hS' d2 d3
  go_wp2_with (go_at_call 14; refine hV4.out.mono ?_; rintro e W5 ⟨rfl, hb5⟩)
  go_ret
  exact ⟨rfl, hb4'.out.trans (hb5.mono hb4'.out.size)⟩
set_option maxRecDepth 100000 in
set_option maxHeartbeats 4000000 in
theorem byRuleAll_any (ev : Value) (v a : ByteArray) (n x : Int) (ok b : Bool) (hA : WordIs ev a n ok) (hX : WordIs ev v x b) (w : World) (hE : ErrV ev w) :
    Calls Tryz.prog 8 #[.int .i64 19, .int .i64 7, .string v, .string a] w fun e w' => e = .returned (tvE ok (b && pAll x n)) ∧ Below w.heap.size w w' := by
  have hA' := hA
  have hE' : Hid (ErrV ev w) := hE
  clear hA hE
  have hA : Hid (Calls Tryz.prog 15 #[.int .i64 19] w fun e w' => (∃ n o, e = .returned (.tuple #[.agg #[.string n, .string o, .int .i64 7, .func (.func 29) #[] #[]], .bool true])) ∧ Below w.heap.size w w') := ruleAt_any 19 7 _ (by omega) (by omega) (fun cs h => h.2.2.2.1) w
  have hU : ∀ n o W, Hid (Calls Tryz.prog 16 #[.agg #[.string n, .string o, .int .i64 7, .func (.func 29) #[] #[]], .int .i64 7] W fun e w' => e = .returned (.bool true) ∧ Below W.heap.size W w') := fun n o W => suits_same n o 7 _ (by decide) (by decide) W
  have hQ : ∀ W : World, ErrV ev W → Hid (Calls Tryz.prog 29 #[intV, .string a] W fun e w' => (∃ c, e = .returned (.tuple #[c, .bool ok]) ∧ WrdCls 40 n ok w' c) ∧ Below W.heap.size W w') := fun W h => allBits_any ev a n ok hA' W h
  have hV : ∀ (c : Value) (W : World), ErrV ev W → WrdCls 40 n ok W c → Hid (Calls Tryz.prog 14 #[c, .bool ok, .string v] W fun e w' => e = .returned (tvE ok (b && pAll x n)) ∧ Below W.heap.size W w') := fun c W h hc => verdictW_any ev c ok _ _ allAsks allWalked v n x b hX W h hc
  have hS' : ∀ W : World, Hid (Calls Tryz.prog 13 #[.int .i64 7] W fun e w' => e = .returned intV ∧ w' = W) := synInt
  generalize tvE ok (b && pAll x n) = res at *
  go_enter Tryz.func8, Tryz.ntmps8
  go_wp2_with fail
  refine hA.out.mono ?_
  rintro e W1 ⟨⟨n', o', rfl⟩, hb1⟩
  obtain ⟨W2, hW2⟩ : ∃ W2, W1.alloc (.cells #[.string n', .string o', .int .i64 7, .func (.func 29) #[] #[]] 42) = W2 := ⟨_, rfl⟩
  have G2 : W2.heap[W1.heap.size]? = some (.cells #[.string n', .string o', .int .i64 7, .func (.func 29) #[] #[]] 42 (0, 0)) := by rw [← hW2]; exact heap_alloc_last W1 _
  have hbx : Hid (Below w.heap.size w W2) := by unfold Hid; rw [← hW2]; exact hb1.alloc hb1.size _
  have hlt : W1.heap.size < W2.heap.size := (Array.getElem?_eq_some_iff.1 G2).1
  have c0 : W2.cell? ⟨W1.heap.size, 0, none⟩ = some (.string n') := by rw [cell_of_row W2 _ _ _ _ _ G2]; rfl
  have c1 : W2.cell? ⟨W1.heap.size, 1, none⟩ = some (.string o') := by rw [cell_of_row W2 _ _ _ _ _ G2]; rfl
  have c2 : W2.cell? ⟨W1.heap.size, 2, none⟩ = some (.int .i64 7) := by rw [cell_of_row W2 _ _ _ _ _ G2]; rfl
  have c3 : W2.cell? ⟨W1.heap.size, 3, none⟩ = some (.func (.func 29) #[] #[]) := by rw [cell_of_row W2 _ _ _ _ _ G2]; rfl
  have hlt' : Hid (W1.heap.size < W2.heap.size) := hlt
  have hst : (store ⟨W1.heap.size, 3, none⟩ (.func (.func 29) #[] #[])).run Tryz.prog (W1.alloc (.cells #[.string n', .string o', .int .i64 7, .nilFunc] 42)) = .ok () W2 := by
    rw [run_store Tryz.prog _ _ _ _ rfl, ← hW2]
    simp [go_sem]
  clear hA hb1 G2 hlt
  go_upto_region 4 with (go_at_call 16; refine (hU n' o' _).out.mono ?_; rintro e W3 ⟨rfl, hb3⟩)
  have d2 : W3.cell? ⟨W1.heap.size, 2, none⟩ = some (.int .i64 7) := (hb3.cell hlt'.out).trans c2
  have d3 : W3.cell? ⟨W1.heap.size, 3, none⟩ = some (.func (.func 29) #[] #[]) := (hb3.cell hlt'.out).trans c3
  have hz3 : W1.heap.size < W3.heap.size := Nat.lt_of_lt_of_le hlt'.out hb3.size
  have hby : Hid (Below w.heap.size w W3) := hbx.out.trans (hb3.mono hbx.out.size)
  have dE : Hid (ErrV ev W3) := hE'.out.below' hby.out
  clear c0 c1 c2 c3 hU hb3 hlt' hbx hW2
  go_region_held3 (fun w' => w'.cell? ⟨W1.heap.size, 2, none⟩ = some (.int .i64 7) ∧ w'.cell? ⟨W1.heap.size, 3, none⟩ = some (.func (.func 29) #[] #[]))
    (first | go_keep | exact ⟨(hb4.cell (by simpa using hz3)).trans (by simpa using d2), (hb4.cell (by simpa using hz3)).trans (by simpa using d3)⟩)
    (first | (go_at_call 13; refine (hS' _).out.mono ?_; rintro e w' ⟨rfl, rfl⟩) | (go_at_call 29; refine (hQ _ dE.out.drew).out.mono ?_; rintro e W4 ⟨⟨c, rfl, hc⟩, hb4⟩))
  have hV4 := hV c W4 (dE.out.drew.below hb4) hc
  have hb4' : Hid (Below w.heap.size w W4) := hby.out.trans ((((Below.refl W3.heap.size W3).drew).trans hb4).mono hby.out.size)
  clear hV hc hb4 hQ hS' d2 d3
  go_wp2_with (go_at_call 14; refine hV4.out.mono ?_; rintro e W5 ⟨rfl, hb5⟩)
  go_ret
  exact ⟨rfl, hb4'.out.trans (hb5.mono hb4'.out.size)⟩
set_option maxRecDepth 100000 in
set_option maxHeartbeats 4000000 in
theorem byRuleAhead_any (v a : ByteArray) (w : World) :
    Calls Tryz.prog 8 #[.int .i64 16, .int .i64 7, .string v, .string a] w fun e w' => e = .returned (ordT (fun o => decide (o < 0)) v a) ∧ Below w.heap.size w w' := by
  have hA : Hid (Calls Tryz.prog 15 #[.int .i64 16] w fun e w' => (∃ n o, e = .returned (.tuple #[.agg #[.string n, .string o, .int .i64 7, .func (.func 28) #[] #[]], .bool true])) ∧ Below w.heap.size w w') := ruleAt_any 16 7 _ (by omega) (by omega) (fun cs h => h.2.2.1) w
  have hU : ∀ n o W, Hid (Calls Tryz.prog 16 #[.agg #[.string n, .string o, .int .i64 7, .func (.func 28) #[] #[]], .int .i64 7] W fun e w' => e = .returned (.bool true) ∧ Below W.heap.size W w') := fun n o W => suits_same n o 7 _ (by decide) (by decide) W
  have hQ : ∀ W : World, Hid (Calls Tryz.prog 28 #[intV, .string a] W fun e w' => (∃ c, e = .returned (.tuple #[c, .bool (intOk a.data.toList)]) ∧ CmpCls w' c 38 (nrm (intOk a.data.toList) a)) ∧ Below W.heap.size W w') := fun W => ahead_any a W
  have hV : ∀ (c : Value) (W : World), CmpCls W c 38 (nrm (intOk a.data.toList) a) → Hid (Calls Tryz.prog 14 #[c, .bool (intOk a.data.toList), .string v] W fun e w' => e = .returned (ordT (fun o => decide (o < 0)) v a) ∧ Below W.heap.size W w') := fun c W hc => verdictC_any c _ _ _ aheadAsks aheadWalked v _ _ _ (intN_any v) W hc
  have hS' : ∀ W : World, Hid (Calls Tryz.prog 13 #[.int .i64 7] W fun e w' => e = .returned intV ∧ w' = W) := synInt
  generalize ordT (fun o => decide (o < 0)) v a = res at *
  generalize nrm (intOk a.data.toList) a = na at *
  generalize intOk a.data.toList = ba at *
  go_enter Tryz.func8, Tryz.ntmps8
  go_wp2_with fail
  refine hA.out.mono ?_
  rintro e W1 ⟨⟨n', o', rfl⟩, hb1⟩
  obtain ⟨W2, hW2⟩ : ∃ W2, W1.alloc (.cells #[.string n', .string o', .int .i64 7, .func (.func 28) #[] #[]] 42) = W2 := ⟨_, rfl⟩
  have G2 : W2.heap[W1.heap.size]? = some (.cells #[.string n', .string o', .int .i64 7, .func (.func 28) #[] #[]] 42 (0, 0)) := by rw [← hW2]; exact heap_alloc_last W1 _
  have hbx : Hid (Below w.heap.size w W2) := by unfold Hid; rw [← hW2]; exact hb1.alloc hb1.size _
  have hlt : W1.heap.size < W2.heap.size := (Array.getElem?_eq_some_iff.1 G2).1
  have c0 : W2.cell? ⟨W1.heap.size, 0, none⟩ = some (.string n') := by rw [cell_of_row W2 _ _ _ _ _ G2]; rfl
  have c1 : W2.cell? ⟨W1.heap.size, 1, none⟩ = some (.string o') := by rw [cell_of_row W2 _ _ _ _ _ G2]; rfl
  have c2 : W2.cell? ⟨W1.heap.size, 2, none⟩ = some (.int .i64 7) := by rw [cell_of_row W2 _ _ _ _ _ G2]; rfl
  have c3 : W2.cell? ⟨W1.heap.size, 3, none⟩ = some (.func (.func 28) #[] #[]) := by rw [cell_of_row W2 _ _ _ _ _ G2]; rfl
  have hlt' : Hid (W1.heap.size < W2.heap.size) := hlt
  have hst : (store ⟨W1.heap.size, 3, none⟩ (.func (.func 28) #[] #[])).run Tryz.prog (W1.alloc (.cells #[.string n', .string o', .int .i64 7, .nilFunc] 42)) = .ok () W2 := by
    rw [run_store Tryz.prog _ _ _ _ rfl, ← hW2]
    simp [go_sem]
  clear hA hb1 G2 hlt
  go_upto_region 4 with (go_at_call 16; refine (hU n' o' _).out.mono ?_; rintro e W3 ⟨rfl, hb3⟩)
  have d2 : W3.cell? ⟨W1.heap.size, 2, none⟩ = some (.int .i64 7) := (hb3.cell hlt'.out).trans c2
  have d3 : W3.cell? ⟨W1.heap.size, 3, none⟩ = some (.func (.func 28) #[] #[]) := (hb3.cell hlt'.out).trans c3
  have hz3 : W1.heap.size < W3.heap.size := Nat.lt_of_lt_of_le hlt'.out hb3.size
  have hby : Hid (Below w.heap.size w W3) := hbx.out.trans (hb3.mono hbx.out.size)
  clear c0 c1 c2 c3 hU hb3 hlt' hbx hW2
  go_region_held3 (fun w' => w'.cell? ⟨W1.heap.size, 2, none⟩ = some (.int .i64 7) ∧ w'.cell? ⟨W1.heap.size, 3, none⟩ = some (.func (.func 28) #[] #[]))
    (first | go_keep | exact ⟨(hb4.cell (by simpa using hz3)).trans (by simpa using d2), (hb4.cell (by simpa using hz3)).trans (by simpa using d3)⟩)
    (first | (go_at_call 13; refine (hS' _).out.mono ?_; rintro e w' ⟨rfl, rfl⟩) | (go_at_call 28; refine (hQ _).out.mono ?_; rintro e W4 ⟨⟨c, rfl, hc⟩, hb4⟩))
  have hV4 := hV c W4 hc
  have hb4' : Hid (Below w.heap.size w W4) := hby.out.trans ((((Below.refl W3.heap.size W3).drew).trans hb4).mono hby.out.size)
  clear hV hc hb4 hQ hS' d2 d3
  go_wp2_with (go_at_call 14; refine hV4.out.mono ?_; rintro e W5 ⟨rfl, hb5⟩)
  go_ret
  exact ⟨rfl, hb4'.out.trans (hb5.mono hb4'.out.size)⟩
end Go.Proofs.YtjokpcggdaoleaaGreatDoor
