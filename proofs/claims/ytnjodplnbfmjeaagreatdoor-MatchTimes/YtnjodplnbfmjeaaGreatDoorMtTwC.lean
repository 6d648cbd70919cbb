import Derived.Test.YtnjodplnbfmjeaaGreatDoorMtTwB
namespace Go.Proofs.YtnjodplnbfmjeaaGreatDoor
open Go.RowKit
set_option linter.unusedVariables false
set_option linter.unusedSimpArgs false
namespace Mt

/-- The cells of a minute. -/
def WhV (W : World) (g : Nat) (y mo d m z : Int) : Prop := W.heap[g]? = some (.cells #[.int .i64 y, .int .i64 mo, .int .i64 d, .int .i64 m, .int .i64 z] 23 (0, 0))
theorem WhV.cells {W : World} {g : Nat} {y mo d m z : Int} (h : WhV W g y mo d m z) : (W.cell? ⟨g, 0, none⟩ = some (.int .i64 y) ∧ W.cell? ⟨g, 1, none⟩ = some (.int .i64 mo) ∧ W.cell? ⟨g, 2, none⟩ = some (.int .i64 d) ∧ W.cell? ⟨g, 3, none⟩ = some (.int .i64 m) ∧ W.cell? ⟨g, 4, none⟩ = some (.int .i64 z)) ∧ ∀ j, W.frozen? ⟨g, j, none⟩ = false :=
  ⟨⟨(rowC h (j := 0) (by simp)).1, (rowC h (j := 1) (by simp)).1, (rowC h (j := 2) (by simp)).1, (rowC h (j := 3) (by simp)).1, (rowC h (j := 4) (by simp)).1⟩, fun j => by unfold WhV at h; simp [World.frozen?, h]⟩
theorem WhV.lt {W : World} {g : Nat} {y mo d m z : Int} (h : WhV W g y mo d m z) : g < W.heap.size := (Array.getElem?_eq_some_iff.1 h).1
theorem WhV.of_block {W W' : World} {g : Nat} {y mo d m z : Int} (h : WhV W g y mo d m z) (e : W'.heap[g]? = W.heap[g]?) : WhV W' g y mo d m z := e.trans h
theorem WhV.below {W W' : World} {g : Nat} {y mo d m z : Int} (h : WhV W g y mo d m z) {B : Nat} (hb : Below B W W') (hg : g < B) : WhV W' g y mo d m z := h.of_block (hb.block g hg)
def st5 (V : World) (k : Nat) (y mo d m z : Int) : World := ((((V.setCell ⟨k, 0, none⟩ (.int .i64 y)).setCell ⟨k, 1, none⟩ (.int .i64 mo)).setCell ⟨k, 2, none⟩ (.int .i64 d)).setCell ⟨k, 3, none⟩ (.int .i64 m)).setCell ⟨k, 4, none⟩ (.int .i64 z)
theorem WhV.s0 {W : World} {g : Nat} {y mo d m z : Int} (h : WhV W g y mo d m z) (x : Int) : WhV (W.setCell ⟨g, 0, none⟩ (.int .i64 x)) g x mo d m z := Go.heap_setCell_same _ _ _ _ _ _ h
theorem WhV.s1 {W : World} {g : Nat} {y mo d m z : Int} (h : WhV W g y mo d m z) (x : Int) : WhV (W.setCell ⟨g, 1, none⟩ (.int .i64 x)) g y x d m z := Go.heap_setCell_same _ _ _ _ _ _ h
theorem WhV.s2 {W : World} {g : Nat} {y mo d m z : Int} (h : WhV W g y mo d m z) (x : Int) : WhV (W.setCell ⟨g, 2, none⟩ (.int .i64 x)) g y mo x m z := Go.heap_setCell_same _ _ _ _ _ _ h
theorem WhV.s3 {W : World} {g : Nat} {y mo d m z : Int} (h : WhV W g y mo d m z) (x : Int) : WhV (W.setCell ⟨g, 3, none⟩ (.int .i64 x)) g y mo d x z := Go.heap_setCell_same _ _ _ _ _ _ h
theorem WhV.s4 {W : World} {g : Nat} {y mo d m z : Int} (h : WhV W g y mo d m z) (x : Int) : WhV (W.setCell ⟨g, 4, none⟩ (.int .i64 x)) g y mo d m x := Go.heap_setCell_same _ _ _ _ _ _ h
theorem st5_at {W : World} {g : Nat} {a0 a1 a2 a3 a4 : Int} (h : WhV W g a0 a1 a2 a3 a4) (y mo d m z : Int) : WhV (st5 W g y mo d m z) g y mo d m z := ((((h.s0 y).s1 mo).s2 d).s3 m).s4 z
theorem WhV.other {W : World} {g k : Nat} {y mo d m z : Int} (h : WhV W g y mo d m z) (j : Nat) (x : Value) (hk : k ≠ g) : WhV (W.setCell ⟨k, j, none⟩ x) g y mo d m z := h.of_block (Go.heap_setCell_other _ _ _ _ (Ne.symm hk))
theorem st5_off {W : World} {g k : Nat} {a0 a1 a2 a3 a4 : Int} (h : WhV W g a0 a1 a2 a3 a4) (hk : k ≠ g) (y mo d m z : Int) : WhV (st5 W k y mo d m z) g a0 a1 a2 a3 a4 := ((((h.other 0 _ hk).other 1 _ hk).other 2 _ hk).other 3 _ hk).other 4 _ hk
theorem st5_below {W W' : World} {B k : Nat} (h : Below B W W') (hk : B ≤ k) (y mo d m z : Int) : Below B W (st5 W' k y mo d m z) := ((((h.setCell hk _).setCell hk _).setCell hk _).setCell hk _).setCell hk _
theorem WhV.drew {W : World} {g : Nat} {y mo d m z : Int} (h : WhV W g y mo d m z) : WhV W.drew g y mo d m z := h
theorem ld_wh {W : World} {g : Nat} {y mo d m z : Int} (h : WhV W g y mo d m z) : (loadVar 23 ⟨g, 0, none⟩).run Tryz.prog W = .ok (.agg #[.int .i64 y, .int .i64 mo, .int .i64 d, .int .i64 m, .int .i64 z]) W :=
  run_loadVar_row W g 23 23 _ (0, 0) _ h Tryz.underlying23 rfl (by kernel_rfl)
def I64 (n : Int) : Prop := -9223372036854775808 ≤ n ∧ n ≤ 9223372036854775807
/-- A minute brought between its bounds. -/
def whV (y mo d m z : Int) : Value := .agg #[.int .i64 y, .int .i64 mo, .int .i64 d, .int .i64 m, .int .i64 z]
set_option maxRecDepth 100000 in
set_option maxHeartbeats 4000000 in
theorem within_any (y mo d m z : Int) (w : World) (hy : I64 y) (hmo : I64 mo) (hd : I64 d) (hm : I64 m) (hz : I64 z) : Calls Tryz.prog 4 #[whV y mo d m z] w fun e w' => e = .returned (whV (inV y 0 9999) (inV mo 1 12) (inV d 2 27) (inV m 0 1439) (inV z 0 2878 - 1439)) ∧ Below w.heap.size w w' := by
  obtain ⟨Wa, hWa⟩ : ∃ W, w.alloc (.cells #[.int .i64 y, .int .i64 mo, .int .i64 d, .int .i64 m, .int .i64 z] 23) = W := ⟨_, rfl⟩
  obtain ⟨Wb, hWb⟩ : ∃ W, Wa.alloc (.cells #[.int .i64 0, .int .i64 0, .int .i64 0, .int .i64 0, .int .i64 0] 23) = W := ⟨_, rfl⟩
  have na : Wa.heap.size = w.heap.size + 1 := by rw [← hWa]; simp
  have pa : WhV Wa w.heap.size y mo d m z := by rw [← hWa]; exact heap_alloc_last w _
  have pb1 : WhV Wb w.heap.size y mo d m z := by rw [← hWb]; exact pa.of_block (Below.heap_alloc _ _ _ pa.lt)
  have pb2 : WhV Wb (w.heap.size + 1) 0 0 0 0 0 := by rw [← hWb, ← na]; exact heap_alloc_last Wa _
  have hB : Below w.heap.size w Wb := by rw [← hWb, ← hWa]; exact ((Below.refl _ _).alloc (Nat.le_refl _) _).alloc (by simp) _
  have hI : ∀ (n lo hi : Int) (W : World), I64 n → 0 ≤ lo → lo ≤ hi → hi ≤ 9999 → Hid (Calls Tryz.prog 12 #[.int .i64 n, .int .i64 lo, .int .i64 hi] W fun e w' => e = .returned (.int .i64 (inV n lo hi)) ∧ w' = W) := fun n lo hi W h1 h2 h3 h4 => in_any n lo hi W h1 h2 h3 h4
  have hzb := inV_bnd (n := z) (show (0 : Int) ≤ 2878 by decide)
  obtain ⟨y', hy'⟩ : ∃ x, inV y 0 9999 = x := ⟨_, rfl⟩
  obtain ⟨mo', hmo'⟩ : ∃ x, inV mo 1 12 = x := ⟨_, rfl⟩
  obtain ⟨d', hd'⟩ : ∃ x, inV d 2 27 = x := ⟨_, rfl⟩
  obtain ⟨m', hm'⟩ : ∃ x, inV m 0 1439 = x := ⟨_, rfl⟩
  obtain ⟨z', hz'⟩ : ∃ x, inV z 0 2878 = x := ⟨_, rfl⟩
  rw [hz'] at hzb
  have ws : wrap64 (z' - 1439) = z' - 1439 := by unfold wrap64; omega
  have ws2 : IntKind.i64.wrap (z' - 1439) = z' - 1439 := by rw [IntKind.wrap_i64]; omega
  rw [hy', hmo', hd', hm', hz']
  obtain ⟨WX, hWX⟩ : ∃ X, ((((((Wb.setCell ⟨w.heap.size + 1, 0, none⟩ (.int .i64 y')).setCell ⟨w.heap.size + 1, 1, none⟩ (.int .i64 mo')).setCell ⟨w.heap.size + 1, 2, none⟩ (.int .i64 d')).setCell ⟨w.heap.size + 1, 3, none⟩ (.int .i64 m')).setCell ⟨w.heap.size + 1, 4, none⟩ (.int .i64 (z' - 1439)))).drew = X := ⟨_, rfl⟩
  have e : (st5 Wb (w.heap.size + 1) y' mo' d' m' (z' - 1439)).drew = WX := hWX
  have hfin : Hid (WhV WX (w.heap.size + 1) y' mo' d' m' (z' - 1439) ∧ Below w.heap.size w WX) := by
    rw [← e]
    exact ⟨(st5_at pb2 _ _ _ _ _).drew, below_drew (st5_below hB (Nat.le_succ _) _ _ _ _ _)⟩
  have hSs : Hid (WX.cell? ⟨w.heap.size, 0, none⟩ = some (.int .i64 y) ∧ WX.cell? ⟨w.heap.size, 1, none⟩ = some (.int .i64 mo) ∧ WX.cell? ⟨w.heap.size, 2, none⟩ = some (.int .i64 d) ∧ WX.cell? ⟨w.heap.size, 3, none⟩ = some (.int .i64 m) ∧ WX.cell? ⟨w.heap.size, 4, none⟩ = some (.int .i64 z)) := by
    have t := (st5_off pb1 (show w.heap.size + 1 ≠ w.heap.size by omega) y' mo' d' m' (z' - 1439)).drew
    rw [e] at t
    exact t.cells.1
  obtain ⟨⟨c0, c1, c2, c3, c4⟩, cf⟩ := pb1.cells
  obtain ⟨⟨e0, e1, e2, e3, e4⟩, ef⟩ := pb2.cells
  have hS0 : Wb.drew.cell? ⟨w.heap.size, 0, none⟩ = some (.int .i64 y) ∧ Wb.drew.cell? ⟨w.heap.size, 1, none⟩ = some (.int .i64 mo) ∧ Wb.drew.cell? ⟨w.heap.size, 2, none⟩ = some (.int .i64 d) ∧ Wb.drew.cell? ⟨w.heap.size, 3, none⟩ = some (.int .i64 m) ∧ Wb.drew.cell? ⟨w.heap.size, 4, none⟩ = some (.int .i64 z) := ⟨c0, c1, c2, c3, c4⟩
  clear pa pb1 pb2 hB e hzb
  unfold whV
  go_enter Tryz.func4, Tryz.ntmps4
  go_upto_region 1 with fail
  clear hWa hWb
  refine Du.regionP (fun _ => true) (fun w' => w'.cell? ⟨w.heap.size, 0, none⟩ = some (.int .i64 y) ∧ w'.cell? ⟨w.heap.size, 1, none⟩ = some (.int .i64 mo) ∧ w'.cell? ⟨w.heap.size, 2, none⟩ = some (.int .i64 d) ∧ w'.cell? ⟨w.heap.size, 3, none⟩ = some (.int .i64 m) ∧ w'.cell? ⟨w.heap.size, 4, none⟩ = some (.int .i64 z)) (by kernel_rfl) ?_
  refine RgN.n_take 0 ?vaW1 (by simp only [List.getElem?_toArray, List.getElem?_cons_zero]; exact rfl) (by kernel_rfl) (by kernel_rfl) (by kernel_rfl) (RgN.safe_all _ _ _) (by rfl) hS0 ?yaW1 ?raW1
  case yaW1 =>
    intro w' hS
    obtain ⟨h0, h1, h2, h3, h4⟩ := hS
    go_simp
    try with_reducible rfl
  case raW1 =>
  simp only [Act.put, List.setIfInBounds_toArray, List.set_cons_zero, List.set_cons_succ]
  refine RgN.n_take 1 ?vaW2 (by simp only [List.getElem?_toArray, List.getElem?_cons_zero, List.getElem?_cons_succ]; exact rfl) (by kernel_rfl) (by kernel_rfl) (by kernel_rfl) (RgN.safe_all _ _ _) (by rfl) hS0 ?yaW2 ?raW2
  case yaW2 =>
    intro w' hS
    obtain ⟨h0, h1, h2, h3, h4⟩ := hS
    go_simp
    try with_reducible rfl
  case raW2 =>
  simp only [Act.put, List.setIfInBounds_toArray, List.set_cons_zero, List.set_cons_succ]
  refine RgN.n_take 3 ?vaW3 (by simp only [List.getElem?_toArray, List.getElem?_cons_zero, List.getElem?_cons_succ]; exact rfl) (by kernel_rfl) (by kernel_rfl) (by kernel_rfl) (RgN.safe_all _ _ _) (by rfl) hS0 ?yaW3 ?raW3
  case yaW3 =>
    intro w' hS
    obtain ⟨h0, h1, h2, h3, h4⟩ := hS
    go_simp
    try with_reducible rfl
  case raW3 =>
  simp only [Act.put, List.setIfInBounds_toArray, List.set_cons_zero, List.set_cons_succ]
  refine RgN.n_take 4 ?vaW4 (by simp only [List.getElem?_toArray, List.getElem?_cons_zero, List.getElem?_cons_succ]; exact rfl) (by kernel_rfl) (by kernel_rfl) (by kernel_rfl) (RgN.safe_all _ _ _) (by rfl) hS0 ?yaW4 ?raW4
  case yaW4 =>
    intro w' hS
    obtain ⟨h0, h1, h2, h3, h4⟩ := hS
    go_simp
    try with_reducible rfl
  case raW4 =>
  simp only [Act.put, List.setIfInBounds_toArray, List.set_cons_zero, List.set_cons_succ]
  refine RgN.n_take 6 ?vaW5 (by simp only [List.getElem?_toArray, List.getElem?_cons_zero, List.getElem?_cons_succ]; exact rfl) (by kernel_rfl) (by kernel_rfl) (by kernel_rfl) (RgN.safe_all _ _ _) (by rfl) hS0 ?yaW5 ?raW5
  case yaW5 =>
    intro w' hS
    obtain ⟨h0, h1, h2, h3, h4⟩ := hS
    go_simp
    try with_reducible rfl
  case raW5 =>
  simp only [Act.put, List.setIfInBounds_toArray, List.set_cons_zero, List.set_cons_succ]
  refine RgN.n_take 7 ?vaW6 (by simp only [List.getElem?_toArray, List.getElem?_cons_zero, List.getElem?_cons_succ]; exact rfl) (by kernel_rfl) (by kernel_rfl) (by kernel_rfl) (RgN.safe_all _ _ _) (by rfl) hS0 ?yaW6 ?raW6
  case yaW6 =>
    intro w' hS
    obtain ⟨h0, h1, h2, h3, h4⟩ := hS
    go_simp
    try with_reducible rfl
  case raW6 =>
  simp only [Act.put, List.setIfInBounds_toArray, List.set_cons_zero, List.set_cons_succ]
  refine RgN.n_take 9 ?vaW7 (by simp only [List.getElem?_toArray, List.getElem?_cons_zero, List.getElem?_cons_succ]; exact rfl) (by kernel_rfl) (by kernel_rfl) (by kernel_rfl) (RgN.safe_all _ _ _) (by rfl) hS0 ?yaW7 ?raW7
  case yaW7 =>
    intro w' hS
    obtain ⟨h0, h1, h2, h3, h4⟩ := hS
    go_simp
    try with_reducible rfl
  case raW7 =>
  simp only [Act.put, List.setIfInBounds_toArray, List.set_cons_zero, List.set_cons_succ]
  refine RgN.n_take 10 ?vaW8 (by simp only [List.getElem?_toArray, List.getElem?_cons_zero, List.getElem?_cons_succ]; exact rfl) (by kernel_rfl) (by kernel_rfl) (by kernel_rfl) (RgN.safe_all _ _ _) (by rfl) hS0 ?yaW8 ?raW8
  case yaW8 =>
    intro w' hS
    obtain ⟨h0, h1, h2, h3, h4⟩ := hS
    go_simp
    try with_reducible rfl
  case raW8 =>
  simp only [Act.put, List.setIfInBounds_toArray, List.set_cons_zero, List.set_cons_succ]
  refine RgN.n_take 12 ?vaW9 (by simp only [List.getElem?_toArray, List.getElem?_cons_zero, List.getElem?_cons_succ]; exact rfl) (by kernel_rfl) (by kernel_rfl) (by kernel_rfl) (RgN.safe_all _ _ _) (by rfl) hS0 ?yaW9 ?raW9
  case yaW9 =>
    intro w' hS
    obtain ⟨h0, h1, h2, h3, h4⟩ := hS
    go_simp
    try with_reducible rfl
  case raW9 =>
  simp only [Act.put, List.setIfInBounds_toArray, List.set_cons_zero, List.set_cons_succ]
  refine RgN.n_take 13 ?vaW10 (by simp only [List.getElem?_toArray, List.getElem?_cons_zero, List.getElem?_cons_succ]; exact rfl) (by kernel_rfl) (by kernel_rfl) (by kernel_rfl) (RgN.safe_all _ _ _) (by rfl) hS0 ?yaW10 ?raW10
  case yaW10 =>
    intro w' hS
    obtain ⟨h0, h1, h2, h3, h4⟩ := hS
    go_simp
    try with_reducible rfl
  case raW10 =>
  simp only [Act.put, List.setIfInBounds_toArray, List.set_cons_zero, List.set_cons_succ]
  refine RgN.n_one 2 (by kernel_rfl) (by simp only [List.getElem?_toArray, List.getElem?_cons_zero, List.getElem?_cons_succ]; exact rfl) (fun K hK => ?_)
  go_simp
  refine (hI y 0 9999 _ hy (by decide) (by decide) (by decide)).out.mono ?_
  rintro e u1 ⟨rfl, hww⟩
  subst hww
  have hS1 := hS0
  go_simp
  refine hK.out _ _ (fun _ => hS1) ?_
  clear hK K
  try simp only [Act.put, List.setIfInBounds_toArray, List.set_cons_zero, List.set_cons_succ]
  refine RgN.n_one 5 (by kernel_rfl) (by simp only [List.getElem?_toArray, List.getElem?_cons_zero, List.getElem?_cons_succ]; exact rfl) (fun K hK => ?_)
  go_simp
  refine (hI mo 1 12 _ hmo (by decide) (by decide) (by decide)).out.mono ?_
  rintro e u2 ⟨rfl, hww⟩
  subst hww
  have hS2 := hS1
  go_simp
  refine hK.out _ _ (fun _ => hS2) ?_
  clear hK K
  try simp only [Act.put, List.setIfInBounds_toArray, List.set_cons_zero, List.set_cons_succ]
  refine RgN.n_one 8 (by kernel_rfl) (by simp only [List.getElem?_toArray, List.getElem?_cons_zero, List.getElem?_cons_succ]; exact rfl) (fun K hK => ?_)
  go_simp
  refine (hI d 2 27 _ hd (by decide) (by decide) (by decide)).out.mono ?_
  rintro e u3 ⟨rfl, hww⟩
  subst hww
  have hS3 := hS2
  go_simp
  refine hK.out _ _ (fun _ => hS3) ?_
  clear hK K
  try simp only [Act.put, List.setIfInBounds_toArray, List.set_cons_zero, List.set_cons_succ]
  refine RgN.n_one 11 (by kernel_rfl) (by simp only [List.getElem?_toArray, List.getElem?_cons_zero, List.getElem?_cons_succ]; exact rfl) (fun K hK => ?_)
  go_simp
  refine (hI m 0 1439 _ hm (by decide) (by decide) (by decide)).out.mono ?_
  rintro e u4 ⟨rfl, hww⟩
  subst hww
  have hS4 := hS3
  go_simp
  refine hK.out _ _ (fun _ => hS4) ?_
  clear hK K
  try simp only [Act.put, List.setIfInBounds_toArray, List.set_cons_zero, List.set_cons_succ]
  refine RgN.n_one 14 (by kernel_rfl) (by simp only [List.getElem?_toArray, List.getElem?_cons_zero, List.getElem?_cons_succ]; exact rfl) (fun K hK => ?_)
  go_simp
  refine (hI z 0 2878 _ hz (by decide) (by decide) (by decide)).out.mono ?_
  rintro e u5 ⟨rfl, hww⟩
  subst hww
  have hS5 := hS4
  go_simp
  refine hK.out _ _ (fun _ => hS5) ?_
  clear hK K
  try simp only [Act.put, List.setIfInBounds_toArray, List.set_cons_zero, List.set_cons_succ]
  refine RgN.n_take 15 ?vaW16 (by simp only [List.getElem?_toArray, List.getElem?_cons_zero, List.getElem?_cons_succ]; exact rfl) (by kernel_rfl) (by kernel_rfl) (by kernel_rfl) (RgN.safe_all _ _ _) (by rfl) hS5 ?yaW16 ?raW16
  case yaW16 =>
    intro w' hS
    obtain ⟨h0, h1, h2, h3, h4⟩ := hS
    go_simp
    try with_reducible rfl
  case raW16 =>
  simp only [Act.put, List.setIfInBounds_toArray, List.set_cons_zero, List.set_cons_succ]
  refine RgN.n_one 16 (by kernel_rfl) (by simp only [List.getElem?_toArray, List.getElem?_cons_zero, List.getElem?_cons_succ]; exact rfl) (fun K hK => ?_)
  go_simp
  refine hK.out _ _ (fun _ => hS5) ?_
  clear hK K
  try simp only [Act.put, List.setIfInBounds_toArray, List.set_cons_zero, List.set_cons_succ]
  refine RgN.n_one 17 (by kernel_rfl) (by simp only [List.getElem?_toArray, List.getElem?_cons_zero, List.getElem?_cons_succ]; exact rfl) (fun K hK => ?_)
  go_simp
  try rw [hWX]
  refine hK.out _ _ (fun _ => hSs.out) ?_
  clear hK K
  try simp only [Act.put, List.setIfInBounds_toArray, List.set_cons_zero, List.set_cons_succ]
  refine RgN.n_done (by kernel_rfl) ?_ _
  go_wp2_with fail
  refine bodyPost_ret (resC _ _ _ rfl _ _ _ _ _ rfl (ld_wh hfin.out.1)) rfl ⟨rfl, hfin.out.2⟩
end Mt
end Go.Proofs.YtnjodplnbfmjeaaGreatDoor
