import Derived.Test.YtnjodplnbfmjeaaGreatDoorMtTmA
import Derived.Deep.OwnRows
import Derived.Deep.WholeRow
import Derived.BigQuiet
import Derived.Test.YtnjodplnbfmjeaaGreatDoorDuR
namespace Go.Proofs.YtnjodplnbfmjeaaGreatDoor
open Go.RowKit
set_option linter.unusedVariables false
set_option linter.unusedSimpArgs false
namespace Mt

/-- The day ahead, the day behind. -/
def ahead (y mo d : Int) : Int × Int × Int := if 1 < d then (y, mo, d - 1) else if 1 < mo then (y, mo - 1, lastD y (mo - 1)) else (y - 1, 12, 31)
def behind (y mo d : Int) : Int × Int × Int := if d < lastD y mo then (y, mo, d + 1) else if mo < 12 then (y, mo + 1, 1) else (y + 1, 1, 1)
def dV (p : Int × Int × Int) : Value := .agg #[.int .i64 p.1, .int .i64 p.2.1, .int .i64 p.2.2]
theorem rowC {W : World} {g : Nat} {cs : Array Value} {T : TypeId} {j : Nat} (h : W.heap[g]? = some (.cells cs T (0, 0))) (hj : j < cs.size) : W.cell? ⟨g, j, none⟩ = some cs[j] ∧ W.frozen? ⟨g, j, none⟩ = false := by
  refine ⟨?_, ?_⟩
  · simp [World.cell?, h, hj]
  · simp [World.frozen?, h]
/-- The cells of a date. -/
def DaV (W : World) (g : Nat) (p : Int × Int × Int) : Prop := W.heap[g]? = some (.cells #[.int .i64 p.1, .int .i64 p.2.1, .int .i64 p.2.2] 310 (0, 0))
theorem DaV.cells {W : World} {g : Nat} {p : Int × Int × Int} (h : DaV W g p) :
    (W.cell? ⟨g, 0, none⟩ = some (.int .i64 p.1) ∧ W.frozen? ⟨g, 0, none⟩ = false) ∧ (W.cell? ⟨g, 1, none⟩ = some (.int .i64 p.2.1) ∧ W.frozen? ⟨g, 1, none⟩ = false) ∧ (W.cell? ⟨g, 2, none⟩ = some (.int .i64 p.2.2) ∧ W.frozen? ⟨g, 2, none⟩ = false) :=
  ⟨rowC h (j := 0) (by simp), rowC h (j := 1) (by simp), rowC h (j := 2) (by simp)⟩
theorem DaV.of_block {W W' : World} {g : Nat} {p : Int × Int × Int} (h : DaV W g p) (e : W'.heap[g]? = W.heap[g]?) : DaV W' g p := e.trans h
theorem DaV.lt {W : World} {g : Nat} {p : Int × Int × Int} (h : DaV W g p) : g < W.heap.size := (Array.getElem?_eq_some_iff.1 h).1
theorem DaV.whole {W : World} {g : Nat} {p : Int × Int × Int} (h : DaV W g p) (q : Int × Int × Int) :
    DaV (((W.setCell ⟨g, 0, none⟩ (.int .i64 q.1)).setCell ⟨g, 1, none⟩ (.int .i64 q.2.1)).setCell ⟨g, 2, none⟩ (.int .i64 q.2.2)) g q :=
  Go.heap_setCell_same _ _ _ _ _ _ (Go.heap_setCell_same _ _ _ _ _ _ (Go.heap_setCell_same _ _ _ _ _ _ h))
theorem resC (fn : Func) (t : Tmp) (ty : TypeId) (h : fn.results = #[.cell t ty]) (tmps : Array Value) (P : Program) (w : World) (p : Addr) (x : Value) (hp : tmps.getD t undef = .pointer (some p)) (hl : (loadVar ty p).run P w = .ok x w) :
    (results fn tmps).run P w = .ok x w := by
  have hp' : tmps[t]?.getD undef = .pointer (some p) := by rw [← hp]; simp
  simp [results, h, hp', asAddr, hl]
theorem ld_da {W : World} {g : Nat} {p : Int × Int × Int} (h : DaV W g p) : (loadVar 310 ⟨g, 0, none⟩).run Tryz.prog W = .ok (dV p) W :=
  run_loadVar_row W g 310 310 _ (0, 0) _ h Tryz.underlying310 rfl (by kernel_rfl)
set_option maxRecDepth 100000 in
set_option maxHeartbeats 2000000 in
theorem dayAhead_any (y mo d : Int) (w : World) (hy : 0 ≤ y ∧ y ≤ 9999) (hm : 1 ≤ mo ∧ mo ≤ 12) (hd : 1 ≤ d ∧ d ≤ 31) : Calls Tryz.prog 281 #[.agg #[.int .i64 y, .int .i64 mo, .int .i64 d]] w fun e w' => e = .returned (dV (ahead y mo d)) ∧ Below w.heap.size w w' := by
  obtain ⟨y0, y1⟩ := hy
  obtain ⟨m0, m1⟩ := hm
  obtain ⟨d0, d1⟩ := hd
  obtain ⟨Wa, hWa⟩ : ∃ W, w.alloc (.cells #[.int .i64 y, .int .i64 mo, .int .i64 d] 310) = W := ⟨_, rfl⟩
  obtain ⟨Wb, hWb⟩ : ∃ W, Wa.alloc (.cells #[.int .i64 0, .int .i64 0, .int .i64 0] 310) = W := ⟨_, rfl⟩
  have na : Wa.heap.size = w.heap.size + 1 := by rw [← hWa]; simp
  have pa : DaV Wa w.heap.size (y, mo, d) := by rw [← hWa]; exact heap_alloc_last w _
  have pb1 : DaV Wb w.heap.size (y, mo, d) := by rw [← hWb]; exact pa.of_block (Below.heap_alloc _ _ _ pa.lt)
  have pb2 : DaV Wb (w.heap.size + 1) (0, 0, 0) := by rw [← hWb, ← na]; exact heap_alloc_last Wa _
  have hB : Below w.heap.size w Wb := by rw [← hWb, ← hWa]; exact ((Below.refl _ _).alloc (Nat.le_refl _) _).alloc (by simp) _
  have hB' : Below w.heap.size w Wb.drew := hB.trans ⟨rfl, rfl, rfl, Nat.le_refl _, fun _ _ => rfl⟩
  have pd1 : DaV Wb.drew w.heap.size (y, mo, d) := pb1
  have pd2 : DaV Wb.drew (w.heap.size + 1) (0, 0, 0) := pb2
  have hsets : ∀ (V : World) (a b c : Int), DaV V (w.heap.size + 1) (0, 0, 0) → Below w.heap.size w V → Hid (DaV (((V.setCell ⟨w.heap.size + 1, 0, none⟩ (.int .i64 a)).setCell ⟨w.heap.size + 1, 1, none⟩ (.int .i64 b)).setCell ⟨w.heap.size + 1, 2, none⟩ (.int .i64 c)) (w.heap.size + 1) (a, b, c) ∧ Below w.heap.size w (((V.setCell ⟨w.heap.size + 1, 0, none⟩ (.int .i64 a)).setCell ⟨w.heap.size + 1, 1, none⟩ (.int .i64 b)).setCell ⟨w.heap.size + 1, 2, none⟩ (.int .i64 c))) := fun V a b c h1 h2 =>
    ⟨h1.whole (a, b, c), ((h2.setCell (Nat.le_succ _) _).setCell (Nat.le_succ _) _).setCell (Nat.le_succ _) _⟩
  by_cases h1 : 1 < d
  · have hr : Hid (ahead y mo d = (y, mo, d - 1)) := if_pos h1
    rw [hr.out]
    have hres := hsets Wb y mo (d - 1) pb2 hB
    obtain ⟨⟨c0, z0⟩, ⟨c1, z1⟩, ⟨c2, z2⟩⟩ := pb1.cells
    obtain ⟨⟨e0, f0⟩, ⟨e1, f1⟩, ⟨e2, f2⟩⟩ := pb2.cells
    dsimp only at c0 c1 c2 e0 e1 e2
    clear pa pb1 pb2 hB hB' pd1 pd2 hsets
    go_enter Tryz.func281, Tryz.ntmps281
    go_wp2_with fail
    refine bodyPost_ret (resC _ _ _ rfl _ _ _ _ _ rfl (ld_da hres.out.1)) rfl ⟨rfl, hres.out.2⟩
  · by_cases h2 : 1 < mo
    · obtain ⟨L, hL⟩ : ∃ L, lastD y (mo - 1) = L := ⟨_, rfl⟩
      have hr : Hid (ahead y mo d = (y, mo - 1, L)) := by rw [← hL]; exact (if_neg h1).trans (if_pos h2)
      rw [hr.out]
      have hres := hsets Wb.drew y (mo - 1) L pd2 hB'
      obtain ⟨⟨c0, z0⟩, ⟨c1, z1⟩, ⟨c2, z2⟩⟩ := pb1.cells
      obtain ⟨⟨e0, f0⟩, ⟨e1, f1⟩, ⟨e2, f2⟩⟩ := pb2.cells
      dsimp only at c0 c1 c2 e0 e1 e2
      have hS0 : Wb.drew.cell? ⟨w.heap.size, 0, none⟩ = some (.int .i64 y) ∧ Wb.drew.cell? ⟨w.heap.size, 1, none⟩ = some (.int .i64 mo) := ⟨c0, c1⟩
      have wm : Hid (IntKind.i64.wrap (mo - 1) = mo - 1) := by unfold Hid; rw [IntKind.wrap_i64]; omega
      clear pa pb1 pb2 hB hB' pd1 pd2 hsets
      go_enter Tryz.func281, Tryz.ntmps281
      go_upto_region 4 with fail
      refine Du.regionP (fun _ => true) (fun w' => w'.cell? ⟨w.heap.size, 0, none⟩ = some (.int .i64 y) ∧ w'.cell? ⟨w.heap.size, 1, none⟩ = some (.int .i64 mo)) (by kernel_rfl) ?_
      refine RgN.n_take 0 ?vaA1 (by simp only [List.getElem?_toArray, List.getElem?_cons_zero, List.getElem?_cons_succ]; exact rfl) (by kernel_rfl) (by kernel_rfl) (by kernel_rfl) (RgN.safe_all _ _ _) (by rfl) hS0 ?yaA1 ?raA1
      case yaA1 =>
        intro w' hS
        obtain ⟨h0, h1⟩ := hS
        go_simp
        try with_reducible rfl
      case raA1 =>
      simp only [Act.put, List.setIfInBounds_toArray, List.set_cons_zero, List.set_cons_succ]
      refine RgN.n_take 2 ?vaA2 (by simp only [List.getElem?_toArray, List.getElem?_cons_zero, List.getElem?_cons_succ]; exact rfl) (by kernel_rfl) (by kernel_rfl) (by kernel_rfl) (RgN.safe_all _ _ _) (by rfl) hS0 ?yaA2 ?raA2
      case yaA2 =>
        intro w' hS
        obtain ⟨h0, h1⟩ := hS
        go_simp
        try with_reducible rfl
      case raA2 =>
      simp only [Act.put, List.setIfInBounds_toArray, List.set_cons_zero, List.set_cons_succ]
      refine RgN.n_take 5 ?vaA3 (by simp only [List.getElem?_toArray, List.getElem?_cons_zero, List.getElem?_cons_succ]; exact rfl) (by kernel_rfl) (by kernel_rfl) (by kernel_rfl) (RgN.safe_all _ _ _) (by rfl) hS0 ?yaA3 ?raA3
      case yaA3 =>
        intro w' hS
        obtain ⟨h0, h1⟩ := hS
        go_simp
        try with_reducible rfl
      case raA3 =>
      simp only [Act.put, List.setIfInBounds_toArray, List.set_cons_zero, List.set_cons_succ]
      refine RgN.n_take 7 ?vaA4 (by simp only [List.getElem?_toArray, List.getElem?_cons_zero, List.getElem?_cons_succ]; exact rfl) (by kernel_rfl) (by kernel_rfl) (by kernel_rfl) (RgN.safe_all _ _ _) (by rfl) hS0 ?yaA4 ?raA4
      case yaA4 =>
        intro w' hS
        obtain ⟨h0, h1⟩ := hS
        go_simp
        try with_reducible rfl
      case raA4 =>
      simp only [Act.put, List.setIfInBounds_toArray, List.set_cons_zero, List.set_cons_succ]
      refine RgN.n_take 1 ?vaA5 (by simp only [List.getElem?_toArray, List.getElem?_cons_zero, List.getElem?_cons_succ]; exact rfl) (by kernel_rfl) (by kernel_rfl) (by kernel_rfl) (RgN.safe_all _ _ _) (by rfl) hS0 ?yaA5 ?raA5
      case yaA5 =>
        intro w' hS
        obtain ⟨h0, h1⟩ := hS
        go_simp
        try with_reducible rfl
      case raA5 =>
      simp only [Act.put, List.setIfInBounds_toArray, List.set_cons_zero, List.set_cons_succ]
      refine RgN.n_take 3 ?vaA6 (by simp only [List.getElem?_toArray, List.getElem?_cons_zero, List.getElem?_cons_succ]; exact rfl) (by kernel_rfl) (by kernel_rfl) (by kernel_rfl) (RgN.safe_all _ _ _) (by rfl) hS0 ?yaA6 ?raA6
      case yaA6 =>
        intro w' hS
        obtain ⟨h0, h1⟩ := hS
        go_simp
        try with_reducible rfl
      case raA6 =>
      simp only [Act.put, List.setIfInBounds_toArray, List.set_cons_zero, List.set_cons_succ]
      refine RgN.n_take 6 ?vaA7 (by simp only [List.getElem?_toArray, List.getElem?_cons_zero, List.getElem?_cons_succ]; exact rfl) (by kernel_rfl) (by kernel_rfl) (by kernel_rfl) (RgN.safe_all _ _ _) (by rfl) hS0 ?yaA7 ?raA7
      case yaA7 =>
        intro w' hS
        obtain ⟨h0, h1⟩ := hS
        go_simp
        try with_reducible rfl
      case raA7 =>
      simp only [Act.put, List.setIfInBounds_toArray, List.set_cons_zero, List.set_cons_succ]
      refine RgN.n_take 8 ?vaA8 (by simp only [List.getElem?_toArray, List.getElem?_cons_zero, List.getElem?_cons_succ]; exact rfl) (by kernel_rfl) (by kernel_rfl) (by kernel_rfl) (RgN.safe_all _ _ _) (by rfl) hS0 ?yaA8 ?raA8
      case yaA8 =>
        intro w' hS
        obtain ⟨h0, h1⟩ := hS
        go_simp
        try with_reducible rfl
      case raA8 =>
      simp only [Act.put, List.setIfInBounds_toArray, List.set_cons_zero, List.set_cons_succ]
      refine RgN.n_take 4 ?vaA9 (by simp only [List.getElem?_toArray, List.getElem?_cons_zero, List.getElem?_cons_succ]; exact rfl) (by kernel_rfl) (by kernel_rfl) (by kernel_rfl) (RgN.safe_all _ _ _) (by rfl) hS0 ?yaA9 ?raA9
      case yaA9 =>
        intro w' hS
        obtain ⟨h0, h1⟩ := hS
        go_simp
        try with_reducible rfl
      case raA9 =>
      simp only [Act.put, List.setIfInBounds_toArray, List.set_cons_zero, List.set_cons_succ]
      refine RgN.n_take 9 ?vaA10 (by simp only [List.getElem?_toArray, List.getElem?_cons_zero, List.getElem?_cons_succ]; exact rfl) (by kernel_rfl) (by kernel_rfl) (by kernel_rfl) (RgN.safe_all _ _ _) (by rfl) hS0 ?yaA10 ?raA10
      case yaA10 =>
        intro w' hS
        obtain ⟨h0, h1⟩ := hS
        go_simp
        try with_reducible rfl
      case raA10 =>
      simp only [Act.put, List.setIfInBounds_toArray, List.set_cons_zero, List.set_cons_succ]
      refine RgN.n_one 10 (by kernel_rfl) (by simp only [List.getElem?_toArray, List.getElem?_cons_zero, List.getElem?_cons_succ]; exact rfl) (fun K hK => ?_)
      go_simp
      rw [show IntKind.i64.wrap (mo - 1) = mo - 1 from wm.out]
      refine (lastDay_any y (mo - 1) _).mono ?_
      rintro e w1 ⟨rfl, rfl⟩
      go_simp
      refine hK.out _ _ (fun _ => hS0) ?_
      clear hK K
      try simp only [Act.put, List.setIfInBounds_toArray, List.set_cons_zero, List.set_cons_succ]
      refine RgN.n_one 11 (by kernel_rfl) (by simp only [List.getElem?_toArray, List.getElem?_cons_zero, List.getElem?_cons_succ]; exact rfl) (fun K hK => ?_)
      go_simp
      refine hK.out _ _ (fun _ => hS0) ?_
      clear hK K
      try simp only [Act.put, List.setIfInBounds_toArray, List.set_cons_zero, List.set_cons_succ]
      refine RgN.n_one 12 (by kernel_rfl) (by simp only [List.getElem?_toArray, List.getElem?_cons_zero, List.getElem?_cons_succ]; exact rfl) (fun K hK => ?_)
      go_simp
      refine hK.out _ _ (fun _ => ?_) ?_
      case refine_1 => exact ⟨by simp [go_sem, c0], by simp [go_sem, c1]⟩
      clear hK K
      try simp only [Act.put, List.setIfInBounds_toArray, List.set_cons_zero, List.set_cons_succ]
      refine RgN.n_done (by kernel_rfl) ?_ _
      go_wp2_with fail
      refine bodyPost_ret (resC _ _ _ rfl _ _ _ _ _ rfl (ld_da hres.out.1)) rfl ⟨rfl, hres.out.2⟩
    · have hr : Hid (ahead y mo d = (y - 1, 12, 31)) := (if_neg h1).trans (if_neg h2)
      rw [hr.out]
      have hres := hsets Wb (y - 1) 12 31 pb2 hB
      obtain ⟨⟨c0, z0⟩, ⟨c1, z1⟩, ⟨c2, z2⟩⟩ := pb1.cells
      obtain ⟨⟨e0, f0⟩, ⟨e1, f1⟩, ⟨e2, f2⟩⟩ := pb2.cells
      dsimp only at c0 c1 c2 e0 e1 e2
      clear pa pb1 pb2 hB hB' pd1 pd2 hsets
      go_enter Tryz.func281, Tryz.ntmps281
      go_wp2_with fail
      refine bodyPost_ret (resC _ _ _ rfl _ _ _ _ _ rfl (ld_da hres.out.1)) rfl ⟨rfl, hres.out.2⟩
end Mt
end Go.Proofs.YtnjodplnbfmjeaaGreatDoor
