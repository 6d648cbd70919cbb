import Derived.Test.YtoiilplnhecokaaDoorAtMapM
import Derived.Test.YtoiilplnhecokaaDoorAtNum
import Derived.Deep.RegionHeld3
import Derived.Deep.RegionHeldLaw
import Derived.Deep.DeepCutAuto
namespace Go.Proofs.YtoiilplnhecokaaDoor
open Go.RowKit

theorem bkC_full (m : Nat) : bkC m (upF 62) = (labs.flatMap lbC ++ [Value.map (some m)]).toArray := by kernel_rfl
theorem flat_at (l : List Lb) (j r : Nat) (hj : j < l.length) (hr : r < 3) : (l.flatMap lbC)[j * 3 + r]? = (lbC l[j])[r]? := by
  induction l generalizing j with
  | nil => simp at hj
  | cons m l ih =>
    have e : (m :: l).flatMap lbC = lbC m ++ l.flatMap lbC := rfl
    have h3 : (lbC m).length = 3 := rfl
    rw [e]
    cases j with
    | zero => rw [List.getElem?_append_left (by omega)]; simp
    | succ j =>
      rw [List.getElem?_append_right (by omega), h3, show (j + 1) * 3 + r - 3 = j * 3 + r by omega, ih j (by simpa using hj)]
      rfl
theorem flat_len (l : List Lb) : (l.flatMap lbC).length = l.length * 3 := by
  induction l with
  | nil => rfl
  | cons m l ih =>
    have e : (m :: l).flatMap lbC = lbC m ++ l.flatMap lbC := rfl
    rw [e, List.length_append, ih, List.length_cons]
    show 3 + _ = _
    omega
/-- A book that lies in a block. -/
def Book (W : World) (b m : Nat) : Prop := W.heap[b]? = some (.cells (bkC m (upF 62)) 74 (0, 0))
theorem Book.cells {W : World} {b m : Nat} (h : Book W b m) (i : Fin 62) : W.cell? ⟨b, i.1 * 3, none⟩ = some (.string (rowL i).1) ∧ W.cell? ⟨b, i.1 * 3 + 1, none⟩ = some (.string (rowL i).2.1) ∧ W.cell? ⟨b, i.1 * 3 + 2, none⟩ = some (.string (rowL i).2.2) := by
  have hl : i.1 < labs.length := by rw [labs_len]; exact i.2
  have key : ∀ r, r < 3 → W.cell? ⟨b, i.1 * 3 + r, none⟩ = (lbC (rowL i))[r]? := fun r hr => by
    rw [cell_of_row W b _ _ _ _ h, bkC_full]
    rw [List.getElem?_toArray, List.getElem?_append_left (by rw [flat_len, labs_len]; have := i.2; omega), flat_at labs i.1 r hl hr]
    rfl
  exact ⟨key 0 (by omega), key 1 (by omega), key 2 (by omega)⟩
theorem Book.map {W : World} {b m : Nat} (h : Book W b m) : W.cell? ⟨b, 186, none⟩ = some (.map (some m)) := by
  rw [cell_of_row W b _ _ _ _ h, bkC_last]
theorem Book.lt {W : World} {b m : Nat} (h : Book W b m) : b < W.heap.size := (Array.getElem?_eq_some_iff.1 h).1
theorem Book.below {W W' : World} {b m : Nat} (h : Book W b m) (hb : Below W.heap.size W W') : Book W' b m := (hb.block b h.lt).trans h

/-- The row under way: its own block T, the result's block R. -/
structure Mid (w : World) (i : Fin 62) (T R : Nat) (al : Value) (sp : ByteArray) (W : World) : Prop where
  row : W.heap[T]? = some (.cells #[.string (rowL i).1, al, .string (rowL i).2.2, .string sp, .int .i64 (SYN.getD i.1 0), .int .i64 (USG.getD i.1 0)] 50 (0, 0))
  res : W.heap[R]? = some (.cells #[.string ⟨#[]⟩, .slice none 0 0, .string ⟨#[]⟩, .string ⟨#[]⟩, .int .i64 0, .int .i64 0] 50 (0, 0))
  bel : Below w.heap.size w W
  als : ((rowL i).2.1.toList = [] ∧ al = .slice none 0 0) ∨ (¬ (rowL i).2.1.toList = [] ∧ ∃ g c, w.heap.size < g ∧ g ≠ T ∧ al = .slice (some ⟨g, 0, none⟩) 1 c ∧ W.cell? ⟨g, 0, none⟩ = some (.string (rowL i).2.1))

set_option maxRecDepth 100000 in
set_option maxHeartbeats 1000000 in
theorem bookRow_any (b m : Nat) (i : Fin 62) (w : World) (hb : Book w b m) (ht : NumT3 w) :
    Calls Tryd.prog 27 #[.pointer (some ⟨b, 0, none⟩), .int .i64 (i.1 : Int)] w fun e w' => ∃ v, e = .returned v ∧ RowIs w' w.heap.size i v ∧ Below w.heap.size w w' := by
  obtain ⟨Wa, hWa⟩ : ∃ Wa, w.alloc (.cells #[.string ⟨#[]⟩, .slice none 0 0, .string ⟨#[]⟩, .string ⟨#[]⟩, .int .i64 0, .int .i64 0] 50) = Wa := ⟨_, rfl⟩
  have hBa : Below w.heap.size w Wa := by rw [← hWa]; exact (Below.refl _ _).alloc (Nat.le_refl _) _
  have hra : Wa.heap[w.heap.size]? = some (.cells #[.string ⟨#[]⟩, .slice none 0 0, .string ⟨#[]⟩, .string ⟨#[]⟩, .int .i64 0, .int .i64 0] 50 (0, 0)) := by rw [← hWa]; exact heap_alloc_last w _
  have hbA := hb.below hBa
  have htA := ht.below hBa
  obtain ⟨c0, c1, c2⟩ := hbA.cells i
  have hi := i.2
  have i0 : (0 : Int) ≤ (i.1 : Int) := Int.natCast_nonneg _
  have i1 : (i.1 : Int) < 62 := by omega
  have hH : Hid (Below w.heap.size w Wa ∧ Wa.heap[w.heap.size]? = some (.cells #[.string ⟨#[]⟩, .slice none 0 0, .string ⟨#[]⟩, .string ⟨#[]⟩, .int .i64 0, .int .i64 0] 50 (0, 0)) ∧ Book Wa b m ∧ NumT3 Wa) := ⟨hBa, hra, hbA, htA⟩
  clear hBa hra hbA htA
  go_enter Tryd.func27, Tryd.ntmps27
  go_upto_region 2 with fail
  obtain ⟨W1, hW1⟩ : ∃ W1, Wa.alloc (.cells #[.string (rowL i).1, .string (rowL i).2.1, .string (rowL i).2.2] 70) = W1 := ⟨_, rfl⟩
  rw [hW1]
  have hB1 : Below Wa.heap.size Wa W1 := by rw [← hW1]; exact (Below.refl _ _).alloc (Nat.le_refl _) _
  have hl1 : W1.heap[Wa.heap.size]? = some (.cells #[.string (rowL i).1, .string (rowL i).2.1, .string (rowL i).2.2] 70 (0, 0)) := by rw [← hW1]; exact heap_alloc_last Wa _
  have d0 := (row_cell hl1 (j := 0) (by simp)).1
  have d1 := (row_cell hl1 (j := 1) (by simp)).1
  have d2 := (row_cell hl1 (j := 2) (by simp)).1
  simp only [List.getElem_toArray, List.getElem_cons_zero, List.getElem_cons_succ] at d0 d1 d2
  have ht1 := hH.out.2.2.2.below hB1
  have s1 := ht1.syn i.1 hi
  have s2 := ht1.usg i.1 hi
  obtain ⟨y1, hy1⟩ : ∃ y, SYN.getD i.1 0 = y := ⟨_, rfl⟩
  obtain ⟨y2, hy2⟩ : ∃ y, USG.getD i.1 0 = y := ⟨_, rfl⟩
  rw [hy1] at s1
  rw [hy2] at s2
  clear hW1 hWa
  go_region_held3 (fun w' => w'.cell? ⟨Wa.heap.size, 0, none⟩ = some (.string (rowL i).1) ∧ w'.cell? ⟨Wa.heap.size, 2, none⟩ = some (.string (rowL i).2.2) ∧ w'.cell? ⟨4, i.1, none⟩ = some (.int .i64 y1) ∧ w'.cell? ⟨5, i.1, none⟩ = some (.int .i64 y2))
    (go_keep)
    (fail)
  obtain ⟨W2, hW2⟩ : ∃ W2, (W1.alloc (.cells #[.string (rowL i).1, .slice none 0 0, .string (rowL i).2.2, .string ⟨#[]⟩, .int .i64 y1, .int .i64 y2] 50)).drew = W2 := ⟨_, rfl⟩
  rw [hW2]
  have hB2 : Below W1.heap.size W1 W2 := by rw [← hW2]; exact ((Below.refl _ _).alloc (Nat.le_refl _) _).drew
  have hT2 : W2.heap[W1.heap.size]? = some (.cells #[.string (rowL i).1, .slice none 0 0, .string (rowL i).2.2, .string ⟨#[]⟩, .int .i64 y1, .int .i64 y2] 50 (0, 0)) := by rw [← hW2]; exact heap_alloc_last W1 _
  have hl2 : W2.heap[Wa.heap.size]? = some (.cells #[.string (rowL i).1, .string (rowL i).2.1, .string (rowL i).2.2] 70 (0, 0)) := (hB2.block _ (Array.getElem?_eq_some_iff.1 hl1).1).trans hl1
  have hb2 : Book W2 b m := (hH.out.2.2.1.below hB1).below hB2
  have ht2 : NumT3 W2 := ht1.below hB2
  have hr2 : W2.heap[w.heap.size]? = some (.cells #[.string ⟨#[]⟩, .slice none 0 0, .string ⟨#[]⟩, .string ⟨#[]⟩, .int .i64 0, .int .i64 0] 50 (0, 0)) := ((hB2.mono hB1.size).block _ (Array.getElem?_eq_some_iff.1 hH.out.2.1).1).trans ((hB1.block _ (Array.getElem?_eq_some_iff.1 hH.out.2.1).1).trans hH.out.2.1)
  have HB2 : Below w.heap.size w W2 := (hH.out.1.trans (hB1.mono hH.out.1.size)).trans (hB2.mono (Nat.le_trans hH.out.1.size hB1.size))
  have hne : Hid (w.heap.size < Wa.heap.size ∧ Wa.heap.size < W1.heap.size ∧ W1.heap.size < W2.heap.size) := ⟨(Array.getElem?_eq_some_iff.1 hH.out.2.1).1, (Array.getElem?_eq_some_iff.1 hl1).1, (Array.getElem?_eq_some_iff.1 hT2).1⟩
  clear hW2 d0 d1 d2 s1 s2 hB1 hB2 hl1 hH ht1 c0 c1 c2
  obtain ⟨e0, _⟩ := row_cell hl2 (j := 1) (by simp)
  simp only [List.getElem_toArray, List.getElem_cons_zero, List.getElem_cons_succ] at e0
  go_upto_if 27 with fail
  have hW0 : Hid (Book w b m ∧ NumT3 w) := ⟨hb, ht⟩
  have t1 := row_cell hT2 (j := 1) (by simp)
  have hM2 : Hid (W2.heap[W1.heap.size]? = some (.cells #[.string (rowL i).1, .slice none 0 0, .string (rowL i).2.2, .string ⟨#[]⟩, .int .i64 y1, .int .i64 y2] 50 (0, 0)) ∧ W2.heap[w.heap.size]? = some (.cells #[.string ⟨#[]⟩, .slice none 0 0, .string ⟨#[]⟩, .string ⟨#[]⟩, .int .i64 0, .int .i64 0] 50 (0, 0)) ∧ Below w.heap.size w W2) := ⟨hT2, hr2, HB2⟩
  obtain ⟨t1c, t1f⟩ := t1
  simp only [List.getElem_toArray, List.getElem_cons_zero, List.getElem_cons_succ] at t1c
  have hw12 : W1.heap.size < W2.heap.size := hne.out.2.2
  clear hT2 hb2 ht2 hr2 HB2 hl2 hb ht
  go_cut [] (fun wx => ∃ al, Mid w i W1.heap.size w.heap.size al ⟨#[]⟩ wx)
  case first =>
    by_cases he : (rowL i).2.1.toList = []
    · have hb0 : (rowL i).2.1.toList.isEmpty = true := by rw [he]; rfl
      rw [hb0]
      go_wp2_with fail
      go_meet
      case rel =>
        obtain ⟨m1, m4, m5⟩ := hM2.out
        rw [← hy1, ← hy2] at m1
        exact ⟨_, m1, m4, m5, Or.inl ⟨he, rfl⟩⟩
    · have hb0 : (rowL i).2.1.toList.isEmpty = false := by simpa using he
      rw [hb0]
      go_wp2_with fail
      go_meet
      case rel =>
        obtain ⟨m1, m4, m5⟩ := hM2.out
        obtain ⟨n1, n2, n3⟩ := hne.out
        rw [← hy1, ← hy2] at m1
        refine ⟨.slice (some ⟨W2.heap.size, 0, none⟩) 1 1, ?_, ?_, ?_, Or.inr ⟨he, W2.heap.size, 1, by omega, by omega, rfl, ?_⟩⟩
        · rw [Below.heap_alloc _ _ _ (by simp; omega)]
          exact Go.heap_setCell_same _ _ _ _ _ _ m1
        · rw [Below.heap_alloc _ _ _ (by simp; omega), Below.heap_setCell _ _ _ _ (by show w.heap.size ≠ W1.heap.size; omega)]
          exact m4
        · refine Below.alloc (Below.setCell m5 ?_ _) ?_ _
          · show w.heap.size ≤ W1.heap.size; omega
          · simp; omega
        · have h := heap_alloc_last (W2.setCell ⟨W1.heap.size, 1, none⟩ (.slice (some ⟨W2.heap.size, 0, none⟩) 1 1)) (.cells #[.string (rowL i).2.1] 9)
          rw [World.size_setCell] at h
          exact (row_cell h (j := 0) (by simp)).1
  case rest =>
    obtain ⟨al, hmd⟩ := hcut
    have htc := hW0.out.2.below hmd.bel
    have s3 := htc.sup i.1 hi
    rw [supI_eq] at s3
    have hmd' : Hid (Mid w i W1.heap.size w.heap.size al ⟨#[]⟩ wc) := hmd
    obtain ⟨t3c, t3f⟩ := row_cell hmd.row (j := 3) (by simp)
    simp only [List.getElem_toArray, List.getElem_cons_zero, List.getElem_cons_succ] at t3c
    obtain ⟨b0, _, _⟩ := (hW0.out.1.below hmd.bel).cells ⟨supI i, supI_lt i⟩
    have k0 : (0 : Int) ≤ (supI i : Int) := Int.natCast_nonneg _
    have k1 : (supI i : Int) < 62 := by have := supI_lt i; omega
    simp only at b0
    clear hmd htc hM2 t1c t1f hy1 hy2 e0 hw12
    go_upto_if 36 with fail
    go_cut [] (fun wx => Mid w i W1.heap.size w.heap.size al (supN i) wx)
    case first =>
      by_cases he : supI i = 0
      · have hd : ((supI i : Int) != 0) = false := by rw [he]; rfl
        have hsp : supN i = ⟨#[]⟩ := by unfold supN; rw [if_pos he]
        have hd2 : (supI i : Int) = 0 := by rw [he]; rfl
        have hsp' : Hid (supN i = ⟨#[]⟩) := hsp
        rw [hd]
        clear b0 k0 k1 hsp hd hd2 he
        go_wp2_with fail
        go_meet
        case rel => rw [hsp'.out]; exact hmd'.out
      · have hd : ((supI i : Int) != 0) = true := by rw [bne_iff_ne]; omega
        have hd2 : ¬ (supI i : Int) = 0 := by omega
        have hsp : supN i = (rowL ⟨supI i, supI_lt i⟩).1 := by unfold supN; rw [if_neg he]
        have hsp' : Hid (supN i = (rowL ⟨supI i, supI_lt i⟩).1) := hsp
        rw [hd]
        clear hsp hd hd2 he
        go_wp2_with fail
        go_meet
        case rel =>
          rw [hsp'.out]
          obtain ⟨m1, m4, m5, m6⟩ := hmd'.out
          obtain ⟨n1, n2, n3⟩ := hne.out
          refine ⟨Go.heap_setCell_same _ _ _ _ _ _ m1, ?_, ?_, ?_⟩
          · rw [Below.heap_setCell _ _ _ _ (by show w.heap.size ≠ W1.heap.size; omega)]; exact m4
          · refine Below.setCell m5 ?_ _
            show w.heap.size ≤ W1.heap.size; omega
          · rcases m6 with m6 | ⟨m6, g, c, q1, q2, q3, q4⟩
            · exact Or.inl m6
            · refine Or.inr ⟨m6, g, c, q1, q2, q3, ?_⟩
              rw [World.cell?_setCell_other _ _ _ _ (by intro hh; injection hh with hh; exact q2 hh.symm)]
              exact q4
    case rest =>
      obtain ⟨h1, h2, h3, h4⟩ := hcut
      obtain ⟨z1, hz1⟩ : ∃ z, SYN.getD i.1 0 = z := ⟨_, rfl⟩
      obtain ⟨z2, hz2⟩ : ∃ z, USG.getD i.1 0 = z := ⟨_, rfl⟩
      rw [hz1, hz2] at h1
      obtain ⟨p0, _⟩ := row_cell h1 (j := 0) (by simp)
      obtain ⟨r0, f0⟩ := row_cell h2 (j := 0) (by simp)
      obtain ⟨p1, _⟩ := row_cell h1 (j := 1) (by simp)
      obtain ⟨r1, f1⟩ := row_cell h2 (j := 1) (by simp)
      obtain ⟨p2, _⟩ := row_cell h1 (j := 2) (by simp)
      obtain ⟨r2, f2⟩ := row_cell h2 (j := 2) (by simp)
      obtain ⟨p3, _⟩ := row_cell h1 (j := 3) (by simp)
      obtain ⟨r3, f3⟩ := row_cell h2 (j := 3) (by simp)
      obtain ⟨p4, _⟩ := row_cell h1 (j := 4) (by simp)
      obtain ⟨r4, f4⟩ := row_cell h2 (j := 4) (by simp)
      obtain ⟨p5, _⟩ := row_cell h1 (j := 5) (by simp)
      obtain ⟨r5, f5⟩ := row_cell h2 (j := 5) (by simp)
      simp only [List.getElem_toArray, List.getElem_cons_zero, List.getElem_cons_succ] at p0 p1 p2 p3 p4 p5 r0 r1 r2 r3 r4 r5
      obtain ⟨al1, al2, al3, rfl⟩ : ∃ a1 a2 a3, al = .slice a1 a2 a3 := by
        rcases h4 with ⟨_, h⟩ | ⟨_, g, c, _, _, h, _⟩
        · exact ⟨_, _, _, h⟩
        · exact ⟨_, _, _, h⟩
      have hx : Hid (W1.heap.size ≠ w.heap.size) := by have := hne.out; unfold Hid; omega
      have hx' : ¬ W1.heap.size = w.heap.size := hx.out
      have h2' : Hid (wc.heap[w.heap.size]? = some (.cells #[.string ⟨#[]⟩, .slice none 0 0, .string ⟨#[]⟩, .string ⟨#[]⟩, .int .i64 0, .int .i64 0] 50 (0, 0))) := h2
      clear h1 h2 s3 t3c t3f b0 hmd' k0 k1
      go_wp2_with fail
      obtain ⟨Wf, hWf⟩ : ∃ Wf, ((((((wc.setCell ⟨w.heap.size, 0, none⟩ (.string (rowL i).1)).setCell ⟨w.heap.size, 1, none⟩ (.slice al1 al2 al3)).setCell ⟨w.heap.size, 2, none⟩ (.string (rowL i).2.2)).setCell ⟨w.heap.size, 3, none⟩ (.string (supN i))).setCell ⟨w.heap.size, 4, none⟩ (.int .i64 z1)).setCell ⟨w.heap.size, 5, none⟩ (.int .i64 z2)) = Wf := ⟨_, rfl⟩
      rw [hWf]
      have hf : Wf.heap[w.heap.size]? = some (.cells #[.string (rowL i).1, .slice al1 al2 al3, .string (rowL i).2.2, .string (supN i), .int .i64 z1, .int .i64 z2] 50 (0, 0)) := by
        rw [← hWf]
        exact Go.heap_setCell_same _ _ _ _ _ _ (Go.heap_setCell_same _ _ _ _ _ _ (Go.heap_setCell_same _ _ _ _ _ _ (Go.heap_setCell_same _ _ _ _ _ _ (Go.heap_setCell_same _ _ _ _ _ _ (Go.heap_setCell_same _ _ _ _ _ _ h2'.out)))))
      have hoth : ∀ y, y ≠ w.heap.size → Wf.heap[y]? = wc.heap[y]? := fun y hy => by
        rw [← hWf, Below.heap_setCell _ _ _ _ hy, Below.heap_setCell _ _ _ _ hy, Below.heap_setCell _ _ _ _ hy, Below.heap_setCell _ _ _ _ hy, Below.heap_setCell _ _ _ _ hy, Below.heap_setCell _ _ _ _ hy]
      have hBf : Below w.heap.size w Wf := by
        rw [← hWf]
        refine Below.setCell (Below.setCell (Below.setCell (Below.setCell (Below.setCell (Below.setCell h3 ?_ _) ?_ _) ?_ _) ?_ _) ?_ _) ?_ _ <;> exact Nat.le_refl _
      refine bodyPost_ret (v := .agg #[.string (rowL i).1, .slice al1 al2 al3, .string (rowL i).2.2, .string (supN i), .int .i64 z1, .int .i64 z2]) ?_ rfl ⟨_, rfl, ?_, hBf⟩
      · exact results_cell_row rfl _ _ w.heap.size 50 _ (0, 0) _ rfl hf Tryd.underlying50 rfl (by kernel_rfl)
      · refine ⟨_, by rw [hz1, hz2], ?_⟩
        rcases h4 with h4 | ⟨m6, g, c, q1, q2, q3, q4⟩
        · exact Or.inl h4
        · refine Or.inr ⟨m6, g, c, Nat.le_of_lt q1, q3, ?_⟩
          rw [World.cell?_of_block (w := wc) (a := ⟨g, 0, none⟩) (hoth g (by omega))]
          exact q4
end Go.Proofs.YtoiilplnhecokaaDoor
