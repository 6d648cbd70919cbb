import Derived.Test.YtnjodplnbfmjeaaGreatDoorMtTmE
namespace Go.Proofs.YtnjodplnbfmjeaaGreatDoor
open Go.RowKit
set_option linter.unusedVariables false
set_option linter.unusedSimpArgs false
namespace Mt

/-- The cells of a moment. -/
def MoV (W : World) (g : Nat) (y mo d h mi s : Int) (f : ByteArray) : Prop := W.heap[g]? = some (.cells #[.int .i64 y, .int .i64 mo, .int .i64 d, .int .i64 h, .int .i64 mi, .int .i64 s, .string f] 312 (0, 0))
theorem MoV.of_block {W W' : World} {g : Nat} {y mo d h mi s : Int} {f : ByteArray} (hm : MoV W g y mo d h mi s f) (e : W'.heap[g]? = W.heap[g]?) : MoV W' g y mo d h mi s f := e.trans hm
theorem MoV.lt {W : World} {g : Nat} {y mo d h mi s : Int} {f : ByteArray} (hm : MoV W g y mo d h mi s f) : g < W.heap.size := (Array.getElem?_eq_some_iff.1 hm).1
theorem MoV.below {W W' : World} {g : Nat} {y mo d h mi s : Int} {f : ByteArray} (hm : MoV W g y mo d h mi s f) {B : Nat} (hb : Below B W W') (hg : g < B) : MoV W' g y mo d h mi s f := hm.of_block (hb.block g hg)
theorem MoV.cells {W : World} {g : Nat} {y mo d h mi s : Int} {f : ByteArray} (hm : MoV W g y mo d h mi s f) :
    (W.cell? ⟨g, 0, none⟩ = some (.int .i64 y) ∧ W.cell? ⟨g, 1, none⟩ = some (.int .i64 mo) ∧ W.cell? ⟨g, 2, none⟩ = some (.int .i64 d) ∧ W.cell? ⟨g, 3, none⟩ = some (.int .i64 h) ∧ W.cell? ⟨g, 4, none⟩ = some (.int .i64 mi) ∧ W.cell? ⟨g, 5, none⟩ = some (.int .i64 s) ∧ W.cell? ⟨g, 6, none⟩ = some (.string f)) ∧ ∀ j, W.frozen? ⟨g, j, none⟩ = false :=
  ⟨⟨(rowC hm (j := 0) (by simp)).1, (rowC hm (j := 1) (by simp)).1, (rowC hm (j := 2) (by simp)).1, (rowC hm (j := 3) (by simp)).1, (rowC hm (j := 4) (by simp)).1, (rowC hm (j := 5) (by simp)).1, (rowC hm (j := 6) (by simp)).1⟩, fun j => by unfold MoV at hm; simp [World.frozen?, hm]⟩
theorem MoV.s0 {W : World} {g : Nat} {y mo d h mi s : Int} {f : ByteArray} (hm : MoV W g y mo d h mi s f) (x : Int) : MoV (W.setCell ⟨g, 0, none⟩ (.int .i64 x)) g x mo d h mi s f := Go.heap_setCell_same _ _ _ _ _ _ hm
theorem MoV.s1 {W : World} {g : Nat} {y mo d h mi s : Int} {f : ByteArray} (hm : MoV W g y mo d h mi s f) (x : Int) : MoV (W.setCell ⟨g, 1, none⟩ (.int .i64 x)) g y x d h mi s f := Go.heap_setCell_same _ _ _ _ _ _ hm
theorem MoV.s2 {W : World} {g : Nat} {y mo d h mi s : Int} {f : ByteArray} (hm : MoV W g y mo d h mi s f) (x : Int) : MoV (W.setCell ⟨g, 2, none⟩ (.int .i64 x)) g y mo x h mi s f := Go.heap_setCell_same _ _ _ _ _ _ hm
theorem MoV.s3 {W : World} {g : Nat} {y mo d h mi s : Int} {f : ByteArray} (hm : MoV W g y mo d h mi s f) (x : Int) : MoV (W.setCell ⟨g, 3, none⟩ (.int .i64 x)) g y mo d x mi s f := Go.heap_setCell_same _ _ _ _ _ _ hm
theorem MoV.s4 {W : World} {g : Nat} {y mo d h mi s : Int} {f : ByteArray} (hm : MoV W g y mo d h mi s f) (x : Int) : MoV (W.setCell ⟨g, 4, none⟩ (.int .i64 x)) g y mo d h x s f := Go.heap_setCell_same _ _ _ _ _ _ hm
theorem MoV.s5 {W : World} {g : Nat} {y mo d h mi s : Int} {f : ByteArray} (hm : MoV W g y mo d h mi s f) (x : Int) : MoV (W.setCell ⟨g, 5, none⟩ (.int .i64 x)) g y mo d h mi x f := Go.heap_setCell_same _ _ _ _ _ _ hm
theorem MoV.s6 {W : World} {g : Nat} {y mo d h mi s : Int} {f : ByteArray} (hm : MoV W g y mo d h mi s f) (x : ByteArray) : MoV (W.setCell ⟨g, 6, none⟩ (.string x)) g y mo d h mi s x := Go.heap_setCell_same _ _ _ _ _ _ hm
theorem MoV.set {W : World} {g : Nat} {y mo d h mi s : Int} {f : ByteArray} (hm : MoV W g y mo d h mi s f) (y' mo' d' h' mi' s' : Int) (f' : ByteArray) :
    MoV (((((((W.setCell ⟨g, 0, none⟩ (.int .i64 y')).setCell ⟨g, 1, none⟩ (.int .i64 mo')).setCell ⟨g, 2, none⟩ (.int .i64 d')).setCell ⟨g, 3, none⟩ (.int .i64 h')).setCell ⟨g, 4, none⟩ (.int .i64 mi')).setCell ⟨g, 5, none⟩ (.int .i64 s')).setCell ⟨g, 6, none⟩ (.string f')) g y' mo' d' h' mi' s' f' :=
  ((((((hm.s0 y').s1 mo').s2 d').s3 h').s4 mi').s5 s').s6 f'
theorem MoV.date {W : World} {g : Nat} {y mo d h mi s : Int} {f : ByteArray} (hm : MoV W g y mo d h mi s f) (y' mo' d' : Int) :
    MoV (((W.setCell ⟨g, 0, none⟩ (.int .i64 y')).setCell ⟨g, 1, none⟩ (.int .i64 mo')).setCell ⟨g, 2, none⟩ (.int .i64 d')) g y' mo' d' h mi s f := ((hm.s0 y').s1 mo').s2 d'
theorem MoV.time {W : World} {g : Nat} {y mo d h mi s : Int} {f : ByteArray} (hm : MoV W g y mo d h mi s f) (h' mi' : Int) :
    MoV ((W.setCell ⟨g, 3, none⟩ (.int .i64 h')).setCell ⟨g, 4, none⟩ (.int .i64 mi')) g y mo d h' mi' s f := (hm.s3 h').s4 mi'
theorem MoV.other {W : World} {g k : Nat} {y mo d h mi s : Int} {f : ByteArray} (hm : MoV W g y mo d h mi s f) (j : Nat) (x : Value) (hk : k ≠ g) : MoV (W.setCell ⟨k, j, none⟩ x) g y mo d h mi s f :=
  hm.of_block (Go.heap_setCell_other _ _ _ _ (Ne.symm hk))
theorem ld_mo {W : World} {g : Nat} {y mo d h mi s : Int} {f : ByteArray} (hm : MoV W g y mo d h mi s f) : (loadVar 312 ⟨g, 0, none⟩).run Tryz.prog W = .ok (.agg #[.int .i64 y, .int .i64 mo, .int .i64 d, .int .i64 h, .int .i64 mi, .int .i64 s, .string f]) W :=
  run_loadVar_row W g 312 312 _ (0, 0) _ hm Tryz.underlying312 rfl (by kernel_rfl)
/-- The moment so many minutes earlier. -/
def backD (y mo d tot : Int) : Int × Int × Int := if tot < 0 then ahead y mo d else if 1440 ≤ tot then behind y mo d else (y, mo, d)
def backT (tot : Int) : Int := if tot < 0 then tot + 1440 else if 1440 ≤ tot then tot - 1440 else tot
def backV (y mo d h mi s : Int) (f : ByteArray) (z : Int) : Value :=
  .agg #[.int .i64 (backD y mo d (h * 60 + mi - z)).1, .int .i64 (backD y mo d (h * 60 + mi - z)).2.1, .int .i64 (backD y mo d (h * 60 + mi - z)).2.2, .int .i64 ((backT (h * 60 + mi - z)).tdiv 60), .int .i64 ((backT (h * 60 + mi - z)).tmod 60), .int .i64 s, .string f]

set_option maxRecDepth 100000 in
set_option maxHeartbeats 4000000 in
theorem back_any (y mo d h mi s : Int) (f : ByteArray) (z : Int) (w : World) (hy : 0 ≤ y ∧ y ≤ 9999) (hm : 1 ≤ mo ∧ mo ≤ 12) (hd : 1 ≤ d ∧ d ≤ 31) (hh : 0 ≤ h ∧ h ≤ 23) (hmi : 0 ≤ mi ∧ mi ≤ 59) (hz : -1439 ≤ z ∧ z ≤ 1439) :
    Calls Tryz.prog 274 #[.agg #[.int .i64 y, .int .i64 mo, .int .i64 d, .int .i64 h, .int .i64 mi, .int .i64 s, .string f], .int .i64 z] w fun e w' => e = .returned (backV y mo d h mi s f z) ∧ Below w.heap.size w w' := by
  obtain ⟨h0, h1⟩ := hh
  obtain ⟨i0, i1⟩ := hmi
  obtain ⟨z0, z1⟩ := hz
  obtain ⟨Wa, hWa⟩ : ∃ W, w.alloc (.cells #[.int .i64 y, .int .i64 mo, .int .i64 d, .int .i64 h, .int .i64 mi, .int .i64 s, .string f] 312) = W := ⟨_, rfl⟩
  obtain ⟨Wb, hWb⟩ : ∃ W, Wa.alloc (.cells #[.int .i64 0, .int .i64 0, .int .i64 0, .int .i64 0, .int .i64 0, .int .i64 0, .string ⟨#[]⟩] 312) = W := ⟨_, rfl⟩
  have na : Wa.heap.size = w.heap.size + 1 := by rw [← hWa]; simp
  have pa : MoV Wa w.heap.size y mo d h mi s f := by rw [← hWa]; exact heap_alloc_last w _
  have pb1 : MoV Wb w.heap.size y mo d h mi s f := by rw [← hWb]; exact pa.of_block (Below.heap_alloc _ _ _ pa.lt)
  have pb2 : MoV Wb (w.heap.size + 1) 0 0 0 0 0 0 ⟨#[]⟩ := by rw [← hWb, ← na]; exact heap_alloc_last Wa _
  have hB : Below w.heap.size w Wb := by rw [← hWb, ← hWa]; exact ((Below.refl _ _).alloc (Nat.le_refl _) _).alloc (by simp) _
  have hnb : Wb.heap.size = w.heap.size + 2 := by rw [← hWb]; simp [na]
  obtain ⟨tot, htot⟩ : ∃ tot, h * 60 + mi - z = tot := ⟨_, rfl⟩
  have ht0 : -1439 ≤ tot ∧ tot ≤ 2878 := by omega
  obtain ⟨t0, t1⟩ := ht0
  obtain ⟨out, hout'⟩ : ∃ out, backV y mo d h mi s f z = out := ⟨_, rfl⟩
  have hout : Hid (backV y mo d h mi s f z = out) := hout'
  rw [hout']
  -- what the end of the function does with the moment as it lies
  have hend : ∀ (W : World) (y' mo' d' h' mi' : Int), MoV W w.heap.size y' mo' d' h' mi' s f → MoV W (w.heap.size + 1) 0 0 0 0 0 0 ⟨#[]⟩ → Below w.heap.size w W →
      Hid (MoV (((((((W.setCell ⟨w.heap.size + 1, 0, none⟩ (.int .i64 y')).setCell ⟨w.heap.size + 1, 1, none⟩ (.int .i64 mo')).setCell ⟨w.heap.size + 1, 2, none⟩ (.int .i64 d')).setCell ⟨w.heap.size + 1, 3, none⟩ (.int .i64 h')).setCell ⟨w.heap.size + 1, 4, none⟩ (.int .i64 mi')).setCell ⟨w.heap.size + 1, 5, none⟩ (.int .i64 s)).setCell ⟨w.heap.size + 1, 6, none⟩ (.string f)) (w.heap.size + 1) y' mo' d' h' mi' s f ∧
        Below w.heap.size w (((((((W.setCell ⟨w.heap.size + 1, 0, none⟩ (.int .i64 y')).setCell ⟨w.heap.size + 1, 1, none⟩ (.int .i64 mo')).setCell ⟨w.heap.size + 1, 2, none⟩ (.int .i64 d')).setCell ⟨w.heap.size + 1, 3, none⟩ (.int .i64 h')).setCell ⟨w.heap.size + 1, 4, none⟩ (.int .i64 mi')).setCell ⟨w.heap.size + 1, 5, none⟩ (.int .i64 s)).setCell ⟨w.heap.size + 1, 6, none⟩ (.string f))) := fun W y' mo' d' h' mi' q1 q2 q3 =>
    ⟨q2.set y' mo' d' h' mi' s f, ((((((q3.setCell (Nat.le_succ _) _).setCell (Nat.le_succ _) _).setCell (Nat.le_succ _) _).setCell (Nat.le_succ _) _).setCell (Nat.le_succ _) _).setCell (Nat.le_succ _) _).setCell (Nat.le_succ _) _⟩
  have hne : w.heap.size ≠ w.heap.size + 1 := Nat.ne_of_lt (Nat.lt_succ_self _)
  have htm : ∀ (W : World) (y' mo' d' h' mi' : Int), MoV W w.heap.size y' mo' d' h mi s f → MoV W (w.heap.size + 1) 0 0 0 0 0 0 ⟨#[]⟩ → Below w.heap.size w W →
      Hid (MoV ((W.setCell ⟨w.heap.size, 3, none⟩ (.int .i64 h')).setCell ⟨w.heap.size, 4, none⟩ (.int .i64 mi')) w.heap.size y' mo' d' h' mi' s f ∧ MoV ((W.setCell ⟨w.heap.size, 3, none⟩ (.int .i64 h')).setCell ⟨w.heap.size, 4, none⟩ (.int .i64 mi')) (w.heap.size + 1) 0 0 0 0 0 0 ⟨#[]⟩ ∧ Below w.heap.size w ((W.setCell ⟨w.heap.size, 3, none⟩ (.int .i64 h')).setCell ⟨w.heap.size, 4, none⟩ (.int .i64 mi'))) := fun W y' mo' d' h' mi' q1 q2 q3 =>
    ⟨q1.time h' mi', (q2.other 3 _ hne).other 4 _ hne, (q3.setCell (Nat.le_refl _) _).setCell (Nat.le_refl _) _⟩
  have hdt : ∀ (W : World) (y' mo' d' : Int), MoV W w.heap.size y mo d h mi s f → MoV W (w.heap.size + 1) 0 0 0 0 0 0 ⟨#[]⟩ → Below w.heap.size w W →
      Hid (MoV (((W.setCell ⟨w.heap.size, 0, none⟩ (.int .i64 y')).setCell ⟨w.heap.size, 1, none⟩ (.int .i64 mo')).setCell ⟨w.heap.size, 2, none⟩ (.int .i64 d')) w.heap.size y' mo' d' h mi s f ∧ MoV (((W.setCell ⟨w.heap.size, 0, none⟩ (.int .i64 y')).setCell ⟨w.heap.size, 1, none⟩ (.int .i64 mo')).setCell ⟨w.heap.size, 2, none⟩ (.int .i64 d')) (w.heap.size + 1) 0 0 0 0 0 0 ⟨#[]⟩ ∧ Below w.heap.size w (((W.setCell ⟨w.heap.size, 0, none⟩ (.int .i64 y')).setCell ⟨w.heap.size, 1, none⟩ (.int .i64 mo')).setCell ⟨w.heap.size, 2, none⟩ (.int .i64 d'))) := fun W y' mo' d' q1 q2 q3 =>
    ⟨q1.date y' mo' d', ((q2.other 0 _ hne).other 1 _ hne).other 2 _ hne, ((q3.setCell (Nat.le_refl _) _).setCell (Nat.le_refl _) _).setCell (Nat.le_refl _) _⟩
  have hA : ∀ W, Hid (Calls Tryz.prog 281 #[.agg #[.int .i64 y, .int .i64 mo, .int .i64 d]] W fun e w' => e = .returned (dV (ahead y mo d)) ∧ Below W.heap.size W w') := fun W => dayAhead_any y mo d W hy hm hd
  have hBe : ∀ W, Hid (Calls Tryz.prog 282 #[.agg #[.int .i64 y, .int .i64 mo, .int .i64 d]] W fun e w' => e = .returned (dV (behind y mo d)) ∧ Below W.heap.size W w') := fun W => dayBehind_any y mo d W hy hm hd
  have hQ : Hid (∀ p t, backD y mo d tot = p → backT tot = t → out = .agg #[.int .i64 p.1, .int .i64 p.2.1, .int .i64 p.2.2, .int .i64 (t.tdiv 60), .int .i64 (t.tmod 60), .int .i64 s, .string f]) := fun p t e1 e2 => by
    rw [← hout']
    unfold backV
    rw [htot, e1, e2]
  clear hout' hout
  have w1 : IntKind.i64.wrap (h * 60) = h * 60 := by rw [IntKind.wrap_i64]; omega
  have hmul : wrap64 (h * 60) = h * 60 := by unfold wrap64; omega
  have hadd : wrap64 (h * 60 + mi) = h * 60 + mi := by unfold wrap64; omega
  have hsub : wrap64 (h * 60 + mi - z) = tot := by unfold wrap64; omega
  obtain ⟨⟨c0, c1, c2, c3, c4, c5, c6⟩, cf⟩ := pb1.cells
  have hst : Hid (MoV Wb w.heap.size y mo d h mi s f ∧ MoV Wb (w.heap.size + 1) 0 0 0 0 0 0 ⟨#[]⟩ ∧ Below w.heap.size w Wb ∧ Wb.heap.size = w.heap.size + 2) := ⟨pb1, pb2, hB, hnb⟩
  clear hy hm hd h0 h1 i0 i1 z0 z1 pa pb1 pb2 hB hnb w1 hne
  by_cases hneg : tot < 0
  · have hT : wrap64 (tot + 1440) = tot + 1440 := by unfold wrap64; omega
    have hres : Hid (out = .agg #[.int .i64 (ahead y mo d).1, .int .i64 (ahead y mo d).2.1, .int .i64 (ahead y mo d).2.2, .int .i64 ((tot + 1440).tdiv 60), .int .i64 ((tot + 1440).tmod 60), .int .i64 s, .string f]) := hQ.out _ _ (if_pos hneg) (if_pos hneg)
    obtain ⟨q, hq⟩ : ∃ q, (tot + 1440).tdiv 60 = q := ⟨_, rfl⟩
    have wq : wrap64 q = q := by rw [← hq, Int.tdiv_eq_ediv_of_nonneg (by omega)]; unfold wrap64; omega
    obtain ⟨r, hr⟩ : ∃ r, (tot + 1440).tmod 60 = r := ⟨_, rfl⟩
    obtain ⟨⟨p1, p2, p3⟩, hp⟩ : ∃ p, ahead y mo d = p := ⟨_, rfl⟩
    simp only [hp, hq, hr] at hres hA
    clear hp hQ hBe
    go_enter Tryz.func274, Tryz.ntmps274
    go_wp2_with fail
    refine (hA _).out.mono ?_
    rintro e W1 ⟨rfl, hb1⟩
    have hs1 : Hid (MoV W1 w.heap.size y mo d h mi s f ∧ MoV W1 (w.heap.size + 1) 0 0 0 0 0 0 ⟨#[]⟩ ∧ Below w.heap.size w W1) := ⟨hst.out.1.below hb1 (by have := hst.out.2.2.2; omega), hst.out.2.1.below hb1 (by have := hst.out.2.2.2; omega), hst.out.2.2.1.trans (hb1.mono (by have := hst.out.2.2.2; omega))⟩
    clear hb1 c0 c1 c2 c3 c4 c5 c6 cf hA
    obtain ⟨⟨c0, c1, c2, c3, c4, c5, c6⟩, cf⟩ := hs1.out.1.cells
    have hd2 := hdt W1 p1 p2 p3 hs1.out.1 hs1.out.2.1 hs1.out.2.2
    clear hdt
    unfold dV
    go_upto_region 4 with fail
    obtain ⟨W2, hW2⟩ : ∃ X, ((W1.setCell ⟨w.heap.size, 0, none⟩ (.int .i64 p1)).setCell ⟨w.heap.size, 1, none⟩ (.int .i64 p2)).setCell ⟨w.heap.size, 2, none⟩ (.int .i64 p3) = X := ⟨_, rfl⟩
    rw [hW2] at hd2 ⊢
    clear hW2 c0 c1 c2 c3 c4 c5 c6 cf hs1
    obtain ⟨⟨c0, c1, c2, c3, c4, c5, c6⟩, cf⟩ := hd2.out.1.cells
    go_upto_region 9 with fail
    have hd3 := htm W2 p1 p2 p3 q r hd2.out.1 hd2.out.2.1 hd2.out.2.2
    obtain ⟨W3, hW3⟩ : ∃ X, (W2.setCell ⟨w.heap.size, 3, none⟩ (.int .i64 q)).setCell ⟨w.heap.size, 4, none⟩ (.int .i64 r) = X := ⟨_, rfl⟩
    rw [hW3] at hd3 ⊢
    clear hW3 c0 c1 c2 c3 c4 c5 c6 cf
    obtain ⟨⟨c0, c1, c2, c3, c4, c5, c6⟩, cf⟩ := hd3.out.1.cells
    obtain ⟨⟨e0, e1, e2, e3, e4, e5, e6⟩, ef⟩ := hd3.out.2.1.cells
    have hd4 := hend W3 p1 p2 p3 q r hd3.out.1 hd3.out.2.1 hd3.out.2.2
    clear hend htm
    go_wp2_with fail
    refine bodyPost_ret (resC _ _ _ rfl _ _ _ _ _ rfl (ld_mo hd4.out.1)) rfl ⟨?_, hd4.out.2⟩
    rw [hres.out]
  · by_cases hbig : 1440 ≤ tot
    · have hT : wrap64 (tot - 1440) = tot - 1440 := by unfold wrap64; omega
      have hres : Hid (out = .agg #[.int .i64 (behind y mo d).1, .int .i64 (behind y mo d).2.1, .int .i64 (behind y mo d).2.2, .int .i64 ((tot - 1440).tdiv 60), .int .i64 ((tot - 1440).tmod 60), .int .i64 s, .string f]) := hQ.out _ _ ((if_neg hneg).trans (if_pos hbig)) ((if_neg hneg).trans (if_pos hbig))
      obtain ⟨q, hq⟩ : ∃ q, (tot - 1440).tdiv 60 = q := ⟨_, rfl⟩
      have wq : wrap64 q = q := by rw [← hq, Int.tdiv_eq_ediv_of_nonneg (by omega)]; unfold wrap64; omega
      obtain ⟨r, hr⟩ : ∃ r, (tot - 1440).tmod 60 = r := ⟨_, rfl⟩
      obtain ⟨⟨p1, p2, p3⟩, hp⟩ : ∃ p, behind y mo d = p := ⟨_, rfl⟩
      simp only [hp, hq, hr] at hres hBe
      clear hp hQ hA
      go_enter Tryz.func274, Tryz.ntmps274
      go_wp2_with fail
      refine (hBe _).out.mono ?_
      rintro e W1 ⟨rfl, hb1⟩
      have hs1 : Hid (MoV W1 w.heap.size y mo d h mi s f ∧ MoV W1 (w.heap.size + 1) 0 0 0 0 0 0 ⟨#[]⟩ ∧ Below w.heap.size w W1) := ⟨hst.out.1.below hb1 (by have := hst.out.2.2.2; omega), hst.out.2.1.below hb1 (by have := hst.out.2.2.2; omega), hst.out.2.2.1.trans (hb1.mono (by have := hst.out.2.2.2; omega))⟩
      clear hb1 c0 c1 c2 c3 c4 c5 c6 cf hBe
      obtain ⟨⟨c0, c1, c2, c3, c4, c5, c6⟩, cf⟩ := hs1.out.1.cells
      have hd2 := hdt W1 p1 p2 p3 hs1.out.1 hs1.out.2.1 hs1.out.2.2
      clear hdt
      unfold dV
      go_upto_region 7 with fail
      obtain ⟨W2, hW2⟩ : ∃ X, ((W1.setCell ⟨w.heap.size, 0, none⟩ (.int .i64 p1)).setCell ⟨w.heap.size, 1, none⟩ (.int .i64 p2)).setCell ⟨w.heap.size, 2, none⟩ (.int .i64 p3) = X := ⟨_, rfl⟩
      rw [hW2] at hd2 ⊢
      clear hW2 c0 c1 c2 c3 c4 c5 c6 cf hs1
      obtain ⟨⟨c0, c1, c2, c3, c4, c5, c6⟩, cf⟩ := hd2.out.1.cells
      go_upto_region 9 with fail
      have hd3 := htm W2 p1 p2 p3 q r hd2.out.1 hd2.out.2.1 hd2.out.2.2
      obtain ⟨W3, hW3⟩ : ∃ X, (W2.setCell ⟨w.heap.size, 3, none⟩ (.int .i64 q)).setCell ⟨w.heap.size, 4, none⟩ (.int .i64 r) = X := ⟨_, rfl⟩
      rw [hW3] at hd3 ⊢
      clear hW3 c0 c1 c2 c3 c4 c5 c6 cf
      obtain ⟨⟨c0, c1, c2, c3, c4, c5, c6⟩, cf⟩ := hd3.out.1.cells
      obtain ⟨⟨e0, e1, e2, e3, e4, e5, e6⟩, ef⟩ := hd3.out.2.1.cells
      have hd4 := hend W3 p1 p2 p3 q r hd3.out.1 hd3.out.2.1 hd3.out.2.2
      clear hend htm
      go_wp2_with fail
      refine bodyPost_ret (resC _ _ _ rfl _ _ _ _ _ rfl (ld_mo hd4.out.1)) rfl ⟨?_, hd4.out.2⟩
      rw [hres.out]
    · have hres : Hid (out = .agg #[.int .i64 ((y, mo, d)).1, .int .i64 ((y, mo, d)).2.1, .int .i64 ((y, mo, d)).2.2, .int .i64 ((tot).tdiv 60), .int .i64 ((tot).tmod 60), .int .i64 s, .string f]) := hQ.out _ _ ((if_neg hneg).trans (if_neg hbig)) ((if_neg hneg).trans (if_neg hbig))
      obtain ⟨q, hq⟩ : ∃ q, (tot).tdiv 60 = q := ⟨_, rfl⟩
      have wq : wrap64 q = q := by rw [← hq, Int.tdiv_eq_ediv_of_nonneg (by omega)]; unfold wrap64; omega
      obtain ⟨r, hr⟩ : ∃ r, (tot).tmod 60 = r := ⟨_, rfl⟩
      simp only [hq, hr] at hres
      clear hQ hA hBe
      go_enter Tryz.func274, Tryz.ntmps274
      have hst0 : Hid (MoV Wb w.heap.size y mo d h mi s f ∧ MoV Wb (w.heap.size + 1) 0 0 0 0 0 0 ⟨#[]⟩ ∧ Below w.heap.size w Wb) := ⟨hst.out.1, hst.out.2.1, hst.out.2.2.1⟩
      clear hdt
      go_upto_region 9 with fail
      have hd3 := htm Wb y mo d q r hst0.out.1 hst0.out.2.1 hst0.out.2.2
      obtain ⟨W3, hW3⟩ : ∃ X, (Wb.setCell ⟨w.heap.size, 3, none⟩ (.int .i64 q)).setCell ⟨w.heap.size, 4, none⟩ (.int .i64 r) = X := ⟨_, rfl⟩
      rw [hW3] at hd3 ⊢
      clear hW3 c0 c1 c2 c3 c4 c5 c6 cf
      obtain ⟨⟨c0, c1, c2, c3, c4, c5, c6⟩, cf⟩ := hd3.out.1.cells
      obtain ⟨⟨e0, e1, e2, e3, e4, e5, e6⟩, ef⟩ := hd3.out.2.1.cells
      have hd4 := hend W3 y mo d q r hd3.out.1 hd3.out.2.1 hd3.out.2.2
      clear hend htm
      go_wp2_with fail
      refine bodyPost_ret (resC _ _ _ rfl _ _ _ _ _ rfl (ld_mo hd4.out.1)) rfl ⟨?_, hd4.out.2⟩
      rw [hres.out]
end Mt
end Go.Proofs.YtnjodplnbfmjeaaGreatDoor
