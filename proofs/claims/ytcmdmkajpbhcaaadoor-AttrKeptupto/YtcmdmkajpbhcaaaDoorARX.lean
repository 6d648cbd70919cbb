import Derived.Test.YtcmdmkajpbhcaaaDoorAtRow
import Derived.Test.YtcmdmkajpbhcaaaDoorAtFind
namespace Go.Proofs.YtcmdmkajpbhcaaaDoor
open Go.RowKit

/-- What a row is told as, its list in a block of its own. -/
def RowX (W : World) (B : Nat) (i : Fin 62) (v : Value) : Prop :=
  ∃ al, v = .agg #[.string (rowL i).1, al, .string (rowL i).2.2, .string (supN i), .int .i64 (SYN.getD i.1 0), .int .i64 (USG.getD i.1 0)] ∧
    (((rowL i).2.1.toList = [] ∧ al = .slice none 0 0) ∨ (¬ (rowL i).2.1.toList = [] ∧ ∃ g c, B ≤ g ∧ al = .slice (some ⟨g, 0, none⟩) 1 c ∧ (c = 1 ∧ W.heap[g]? = some (.cells #[.string (rowL i).2.1] 9 (0, 0)))))
/-- The row under way: its own block T, the result's block R. -/
structure MidX (w : World) (i : Fin 62) (T R : Nat) (al : Value) (sp : ByteArray) (W : World) : Prop where
  row : W.heap[T]? = some (.cells #[.string (rowL i).1, al, .string (rowL i).2.2, .string sp, .int .i64 (SYN.getD i.1 0), .int .i64 (USG.getD i.1 0)] 33 (0, 0))
  res : W.heap[R]? = some (.cells #[.string ⟨#[]⟩, .slice none 0 0, .string ⟨#[]⟩, .string ⟨#[]⟩, .int .i64 0, .int .i64 0] 33 (0, 0))
  bel : Below w.heap.size w W
  als : ((rowL i).2.1.toList = [] ∧ al = .slice none 0 0) ∨ (¬ (rowL i).2.1.toList = [] ∧ ∃ g c, w.heap.size < g ∧ g ≠ T ∧ al = .slice (some ⟨g, 0, none⟩) 1 c ∧ (c = 1 ∧ W.heap[g]? = some (.cells #[.string (rowL i).2.1] 9 (0, 0))))

set_option maxRecDepth 100000 in
set_option maxHeartbeats 1000000 in
theorem bookRowX_any (b m : Nat) (i : Fin 62) (w : World) (hb : Book w b m) (ht : NumT3 w) :
    Calls Tryd.prog 17 #[.pointer (some ⟨b, 0, none⟩), .int .i64 (i.1 : Int)] w fun e w' => ∃ v, e = .returned v ∧ RowX w' w.heap.size i v ∧ Below w.heap.size w w' := by
  obtain ⟨Wa, hWa⟩ : ∃ Wa, w.alloc (.cells #[.string ⟨#[]⟩, .slice none 0 0, .string ⟨#[]⟩, .string ⟨#[]⟩, .int .i64 0, .int .i64 0] 33) = Wa := ⟨_, rfl⟩
  have hBa : Below w.heap.size w Wa := by rw [← hWa]; exact (Below.refl _ _).alloc (Nat.le_refl _) _
  have hra : Wa.heap[w.heap.size]? = some (.cells #[.string ⟨#[]⟩, .slice none 0 0, .string ⟨#[]⟩, .string ⟨#[]⟩, .int .i64 0, .int .i64 0] 33 (0, 0)) := by rw [← hWa]; exact heap_alloc_last w _
  have hbA := hb.below hBa
  have htA := ht.below hBa
  obtain ⟨c0, c1, c2⟩ := hbA.cells i
  have hi := i.2
  have i0 : (0 : Int) ≤ (i.1 : Int) := Int.natCast_nonneg _
  have i1 : (i.1 : Int) < 62 := by omega
  have hH : Hid (Below w.heap.size w Wa ∧ Wa.heap[w.heap.size]? = some (.cells #[.string ⟨#[]⟩, .slice none 0 0, .string ⟨#[]⟩, .string ⟨#[]⟩, .int .i64 0, .int .i64 0] 33 (0, 0)) ∧ Book Wa b m ∧ NumT3 Wa) := ⟨hBa, hra, hbA, htA⟩
  clear hBa hra hbA htA
  go_enter Tryd.func17, Tryd.ntmps17
  go_upto_region 2 with fail
  obtain ⟨W1, hW1⟩ : ∃ W1, Wa.alloc (.cells #[.string (rowL i).1, .string (rowL i).2.1, .string (rowL i).2.2] 45) = W1 := ⟨_, rfl⟩
  rw [hW1]
  have hB1 : Below Wa.heap.size Wa W1 := by rw [← hW1]; exact (Below.refl _ _).alloc (Nat.le_refl _) _
  have hl1 : W1.heap[Wa.heap.size]? = some (.cells #[.string (rowL i).1, .string (rowL i).2.1, .string (rowL i).2.2] 45 (0, 0)) := by rw [← hW1]; exact heap_alloc_last Wa _
  have d0 := (row_cell hl1 (j := 0) (by simp)).1
  have d1 := (row_cell hl1 (j := 1) (by simp)).1
  have d2 := (row_cell hl1 (j := 2) (by simp)).1
  simp only [List.getElem_toArray, List.getElem_cons_zero, List.getElem_cons_succ] at d0 d1 d2
  have ht1 := hH.out.2.2.2.below hB1
  have s1 := ht1.syn i.1 hi
  have s2 := ht1.usg i.1 hi
  obtain ⟨y1, hy1⟩ : ∃ y, SYN.getD i.1 0 = y := ⟨_, rfl⟩
  obtain ⟨y2, hy2⟩ : ∃ y, USG.getD i.1 0 = y := ⟨_, rfl⟩
  rw [hy1] at s1
  rw [hy2] at s2
  clear hW1 hWa
  go_region_held3 (fun w' => w'.cell? ⟨Wa.heap.size, 0, none⟩ = some (.string (rowL i).1) ∧ w'.cell? ⟨Wa.heap.size, 2, none⟩ = some (.string (rowL i).2.2) ∧ w'.cell? ⟨2, i.1, none⟩ = some (.int .i64 y1) ∧ w'.cell? ⟨3, i.1, none⟩ = some (.int .i64 y2))
    (go_keep)
    (fail)
  obtain ⟨W2, hW2⟩ : ∃ W2, (W1.alloc (.cells #[.string (rowL i).1, .slice none 0 0, .string (rowL i).2.2, .string ⟨#[]⟩, .int .i64 y1, .int .i64 y2] 33)).drew = W2 := ⟨_, rfl⟩
  rw [hW2]
  have hB2 : Below W1.heap.size W1 W2 := by rw [← hW2]; exact ((Below.refl _ _).alloc (Nat.le_refl _) _).drew
  have hT2 : W2.heap[W1.heap.size]? = some (.cells #[.string (rowL i).1, .slice none 0 0, .string (rowL i).2.2, .string ⟨#[]⟩, .int .i64 y1, .int .i64 y2] 33 (0, 0)) := by rw [← hW2]; exact heap_alloc_last W1 _
  have hl2 : W2.heap[Wa.heap.size]? = some (.cells #[.string (rowL i).1, .string (rowL i).2.1, .string (rowL i).2.2] 45 (0, 0)) := (hB2.block _ (Array.getElem?_eq_some_iff.1 hl1).1).trans hl1
  have hb2 : Book W2 b m := (hH.out.2.2.1.below hB1).below hB2
  have ht2 : NumT3 W2 := ht1.below hB2
  have hr2 : W2.heap[w.heap.size]? = some (.cells #[.string ⟨#[]⟩, .slice none 0 0, .string ⟨#[]⟩, .string ⟨#[]⟩, .int .i64 0, .int .i64 0] 33 (0, 0)) := ((hB2.mono hB1.size).block _ (Array.getElem?_eq_some_iff.1 hH.out.2.1).1).trans ((hB1.block _ (Array.getElem?_eq_some_iff.1 hH.out.2.1).1).trans hH.out.2.1)
  have HB2 : Below w.heap.size w W2 := (hH.out.1.trans (hB1.mono hH.out.1.size)).trans (hB2.mono (Nat.le_trans hH.out.1.size hB1.size))
  have hne : Hid (w.heap.size < Wa.heap.size ∧ Wa.heap.size < W1.heap.size ∧ W1.heap.size < W2.heap.size) := ⟨(Array.getElem?_eq_some_iff.1 hH.out.2.1).1, (Array.getElem?_eq_some_iff.1 hl1).1, (Array.getElem?_eq_some_iff.1 hT2).1⟩
  clear hW2 d0 d1 d2 s1 s2 hB1 hB2 hl1 hH ht1 c0 c1 c2
  obtain ⟨e0, _⟩ := row_cell hl2 (j := 1) (by simp)
  simp only [List.getElem_toArray, List.getElem_cons_zero, List.getElem_cons_succ] at e0
  go_upto_if 27 with fail
  have hW0 : Hid (Book w b m ∧ NumT3 w) := ⟨hb, ht⟩
  have t1 := row_cell hT2 (j := 1) (by simp)
  have hM2 : Hid (W2.heap[W1.heap.size]? = some (.cells #[.string (rowL i).1, .slice none 0 0, .string (rowL i).2.2, .string ⟨#[]⟩, .int .i64 y1, .int .i64 y2] 33 (0, 0)) ∧ W2.heap[w.heap.size]? = some (.cells #[.string ⟨#[]⟩, .slice none 0 0, .string ⟨#[]⟩, .string ⟨#[]⟩, .int .i64 0, .int .i64 0] 33 (0, 0)) ∧ Below w.heap.size w W2) := ⟨hT2, hr2, HB2⟩
  obtain ⟨t1c, t1f⟩ := t1
  simp only [List.getElem_toArray, List.getElem_cons_zero, List.getElem_cons_succ] at t1c
  have hw12 : W1.heap.size < W2.heap.size := hne.out.2.2
  clear hT2 hb2 ht2 hr2 HB2 hl2 hb ht
  go_cut [] (fun wx => ∃ al, MidX w i W1.heap.size w.heap.size al ⟨#[]⟩ wx)
  case first =>
    by_cases he : (rowL i).2.1.toList = []
    · have hb0 : (rowL i).2.1.toList.isEmpty = true := by rw [he]; rfl
      rw [hb0]
      go_wp2_with fail
      go_meet
      case rel =>
        obtain ⟨m1, m4, m5⟩ := hM2.out
        rw [← hy1, ← hy2] at m1
        exact ⟨_, m1, m4, m5, Or.inl ⟨he, rfl⟩⟩
    · have hb0 : (rowL i).2.1.toList.isEmpty = false := by simpa using he
      rw [hb0]
      go_wp2_with fail
      go_meet
      case rel =>
        obtain ⟨m1, m4, m5⟩ := hM2.out
        obtain ⟨n1, n2, n3⟩ := hne.out
        rw [← hy1, ← hy2] at m1
        refine ⟨.slice (some ⟨W2.heap.size, 0, none⟩) 1 1, ?_, ?_, ?_, Or.inr ⟨he, W2.heap.size, 1, by omega, by omega, rfl, ?_⟩⟩
        · rw [Below.heap_alloc _ _ _ (by simp; omega)]
          exact Go.heap_setCell_same _ _ _ _ _ _ m1
        · rw [Below.heap_alloc _ _ _ (by simp; omega), Below.heap_setCell _ _ _ _ (by show w.heap.size ≠ W1.heap.size; omega)]
          exact m4
        · refine Below.alloc (Below.setCell m5 ?_ _) ?_ _
          · show w.heap.size ≤ W1.heap.size; omega
          · simp; omega
        · have h := heap_alloc_last (W2.setCell ⟨W1.heap.size, 1, none⟩ (.slice (some ⟨W2.heap.size, 0, none⟩) 1 1)) (.cells #[.string (rowL i).2.1] 9)
          rw [World.size_setCell] at h
          exact ⟨rfl, h⟩
  case rest =>
    obtain ⟨al, hmd⟩ := hcut
    have htc := hW0.out.2.below hmd.bel
    have s3 := htc.sup i.1 hi
    rw [supI_eq] at s3
    have hmd' : Hid (MidX w i W1.heap.size w.heap.size al ⟨#[]⟩ wc) := hmd
    obtain ⟨t3c, t3f⟩ := row_cell hmd.row (j := 3) (by simp)
    simp only [List.getElem_toArray, List.getElem_cons_zero, List.getElem_cons_succ] at t3c
    obtain ⟨b0, _, _⟩ := (hW0.out.1.below hmd.bel).cells ⟨supI i, supI_lt i⟩
    have k0 : (0 : Int) ≤ (supI i : Int) := Int.natCast_nonneg _
    have k1 : (supI i : Int) < 62 := by have := supI_lt i; omega
    simp only at b0
    clear hmd htc hM2 t1c t1f hy1 hy2 e0 hw12
    go_upto_if 36 with fail
    go_cut [] (fun wx => MidX w i W1.heap.size w.heap.size al (supN i) wx)
    case first =>
      by_cases he : supI i = 0
      · have hd : ((supI i : Int) != 0) = false := by rw [he]; rfl
        have hsp : supN i = ⟨#[]⟩ := by unfold supN; rw [if_pos he]
        have hd2 : (supI i : Int) = 0 := by rw [he]; rfl
        have hsp' : Hid (supN i = ⟨#[]⟩) := hsp
        rw [hd]
        clear b0 k0 k1 hsp hd hd2 he
        go_wp2_with fail
        go_meet
        case rel => rw [hsp'.out]; exact hmd'.out
      · have hd : ((supI i : Int) != 0) = true := by rw [bne_iff_ne]; omega
        have hd2 : ¬ (supI i : Int) = 0 := by omega
        have hsp : supN i = (rowL ⟨supI i, supI_lt i⟩).1 := by unfold supN; rw [if_neg he]
        have hsp' : Hid (supN i = (rowL ⟨supI i, supI_lt i⟩).1) := hsp
        rw [hd]
        clear hsp hd hd2 he
        go_wp2_with fail
        go_meet
        case rel =>
          rw [hsp'.out]
          obtain ⟨m1, m4, m5, m6⟩ := hmd'.out
          obtain ⟨n1, n2, n3⟩ := hne.out
          refine ⟨Go.heap_setCell_same _ _ _ _ _ _ m1, ?_, ?_, ?_⟩
          · rw [Below.heap_setCell _ _ _ _ (by show w.heap.size ≠ W1.heap.size; omega)]; exact m4
          · refine Below.setCell m5 ?_ _
            show w.heap.size ≤ W1.heap.size; omega
          · rcases m6 with m6 | ⟨m6, g, c, q1, q2, q3, q4⟩
            · exact Or.inl m6
            · refine Or.inr ⟨m6, g, c, q1, q2, q3, ?_⟩
              exact ⟨q4.1, by rw [Below.heap_setCell _ _ _ _ (by exact q2)]; exact q4.2⟩
    case rest =>
      obtain ⟨h1, h2, h3, h4⟩ := hcut
      obtain ⟨z1, hz1⟩ : ∃ z, SYN.getD i.1 0 = z := ⟨_, rfl⟩
      obtain ⟨z2, hz2⟩ : ∃ z, USG.getD i.1 0 = z := ⟨_, rfl⟩
      rw [hz1, hz2] at h1
      obtain ⟨p0, _⟩ := row_cell h1 (j := 0) (by simp)
      obtain ⟨r0, f0⟩ := row_cell h2 (j := 0) (by simp)
      obtain ⟨p1, _⟩ := row_cell h1 (j := 1) (by simp)
      obtain ⟨r1, f1⟩ := row_cell h2 (j := 1) (by simp)
      obtain ⟨p2, _⟩ := row_cell h1 (j := 2) (by simp)
      obtain ⟨r2, f2⟩ := row_cell h2 (j := 2) (by simp)
      obtain ⟨p3, _⟩ := row_cell h1 (j := 3) (by simp)
      obtain ⟨r3, f3⟩ := row_cell h2 (j := 3) (by simp)
      obtain ⟨p4, _⟩ := row_cell h1 (j := 4) (by simp)
      obtain ⟨r4, f4⟩ := row_cell h2 (j := 4) (by simp)
      obtain ⟨p5, _⟩ := row_cell h1 (j := 5) (by simp)
      obtain ⟨r5, f5⟩ := row_cell h2 (j := 5) (by simp)
      simp only [List.getElem_toArray, List.getElem_cons_zero, List.getElem_cons_succ] at p0 p1 p2 p3 p4 p5 r0 r1 r2 r3 r4 r5
      obtain ⟨al1, al2, al3, rfl⟩ : ∃ a1 a2 a3, al = .slice a1 a2 a3 := by
        rcases h4 with ⟨_, h⟩ | ⟨_, g, c, _, _, h, _⟩
        · exact ⟨_, _, _, h⟩
        · exact ⟨_, _, _, h⟩
      have hx : Hid (W1.heap.size ≠ w.heap.size) := by have := hne.out; unfold Hid; omega
      have hx' : ¬ W1.heap.size = w.heap.size := hx.out
      have h2' : Hid (wc.heap[w.heap.size]? = some (.cells #[.string ⟨#[]⟩, .slice none 0 0, .string ⟨#[]⟩, .string ⟨#[]⟩, .int .i64 0, .int .i64 0] 33 (0, 0))) := h2
      clear h1 h2 s3 t3c t3f b0 hmd' k0 k1
      go_wp2_with fail
      obtain ⟨Wf, hWf⟩ : ∃ Wf, ((((((wc.setCell ⟨w.heap.size, 0, none⟩ (.string (rowL i).1)).setCell ⟨w.heap.size, 1, none⟩ (.slice al1 al2 al3)).setCell ⟨w.heap.size, 2, none⟩ (.string (rowL i).2.2)).setCell ⟨w.heap.size, 3, none⟩ (.string (supN i))).setCell ⟨w.heap.size, 4, none⟩ (.int .i64 z1)).setCell ⟨w.heap.size, 5, none⟩ (.int .i64 z2)) = Wf := ⟨_, rfl⟩
      rw [hWf]
      have hf : Wf.heap[w.heap.size]? = some (.cells #[.string (rowL i).1, .slice al1 al2 al3, .string (rowL i).2.2, .string (supN i), .int .i64 z1, .int .i64 z2] 33 (0, 0)) := by
        rw [← hWf]
        exact Go.heap_setCell_same _ _ _ _ _ _ (Go.heap_setCell_same _ _ _ _ _ _ (Go.heap_setCell_same _ _ _ _ _ _ (Go.heap_setCell_same _ _ _ _ _ _ (Go.heap_setCell_same _ _ _ _ _ _ (Go.heap_setCell_same _ _ _ _ _ _ h2'.out)))))
      have hoth : ∀ y, y ≠ w.heap.size → Wf.heap[y]? = wc.heap[y]? := fun y hy => by
        rw [← hWf, Below.heap_setCell _ _ _ _ hy, Below.heap_setCell _ _ _ _ hy, Below.heap_setCell _ _ _ _ hy, Below.heap_setCell _ _ _ _ hy, Below.heap_setCell _ _ _ _ hy, Below.heap_setCell _ _ _ _ hy]
      have hBf : Below w.heap.size w Wf := by
        rw [← hWf]
        refine Below.setCell (Below.setCell (Below.setCell (Below.setCell (Below.setCell (Below.setCell h3 ?_ _) ?_ _) ?_ _) ?_ _) ?_ _) ?_ _ <;> exact Nat.le_refl _
      refine bodyPost_ret (v := .agg #[.string (rowL i).1, .slice al1 al2 al3, .string (rowL i).2.2, .string (supN i), .int .i64 z1, .int .i64 z2]) ?_ rfl ⟨_, rfl, ?_, hBf⟩
      · exact results_cell_row rfl _ _ w.heap.size 33 _ (0, 0) _ rfl hf Tryd.underlying33 rfl (by kernel_rfl)
      · refine ⟨_, by rw [hz1, hz2], ?_⟩
        rcases h4 with h4 | ⟨m6, g, c, q1, q2, q3, q4⟩
        · exact Or.inl h4
        · refine Or.inr ⟨m6, g, c, Nat.le_of_lt q1, q3, ?_⟩
          exact ⟨q4.1, (hoth g (by omega)).trans q4.2⟩
end Go.Proofs.YtcmdmkajpbhcaaaDoor

namespace Go.Proofs.YtcmdmkajpbhcaaaDoor
open Go.RowKit
open TextMath (fold lo)

theorem RowX.of {W W' : World} {B : Nat} {i : Fin 62} {v : Value} (h : RowX W B i v) (hb : ∀ y, B ≤ y → y < W.heap.size → W'.heap[y]? = W.heap[y]?) : RowX W' B i v := by
  obtain ⟨al, e, h4⟩ := h
  refine ⟨al, e, ?_⟩
  rcases h4 with h4 | ⟨m6, g, c, q1, q3, q4⟩
  · exact Or.inl h4
  · refine Or.inr ⟨m6, g, c, q1, q3, ?_⟩
    exact ⟨q4.1, (hb g q1 (Array.getElem?_eq_some_iff.1 q4.2).1).trans q4.2⟩
/-- What Find answers of a folded text. -/
def FindX (W : World) (B : Nat) (f : ByteArray) (e : Ending) : Prop :=
  (rowOf f = none ∧ e = .returned (.tuple #[.agg #[.string ⟨#[]⟩, .slice none 0 0, .string ⟨#[]⟩, .string ⟨#[]⟩, .int .i64 0, .int .i64 0], .bool false])) ∨
  (∃ i v, rowOf f = some i ∧ e = .returned (.tuple #[v, .bool true]) ∧ RowX W B i v)

set_option maxRecDepth 100000 in
set_option maxHeartbeats 400000 in
theorem findX_any (s : ByteArray) (w : World) (hs : s.size ≤ 140737488355328) (ht : NumT3 w) :
    Calls Tryd.prog 6 #[.string s] w fun e w' => FindX w' w.heap.size (S (fold s.data.toList)) e ∧ Below w.heap.size w w' := by
  obtain ⟨f, hf⟩ : ∃ f, S (fold s.data.toList) = f := ⟨_, rfl⟩
  obtain ⟨Wa, hWa⟩ : ∃ Wa, w.alloc (.cells #[.string ⟨#[]⟩, .slice none 0 0, .string ⟨#[]⟩, .string ⟨#[]⟩, .int .i64 0, .int .i64 0] 33) = Wa := ⟨_, rfl⟩
  have hBa : Below w.heap.size w Wa := by rw [← hWa]; exact (Below.refl _ _).alloc (Nat.le_refl _) _
  have hra : Wa.heap[w.heap.size]? = some (.cells #[.string ⟨#[]⟩, .slice none 0 0, .string ⟨#[]⟩, .string ⟨#[]⟩, .int .i64 0, .int .i64 0] 33 (0, 0)) := by rw [← hWa]; exact heap_alloc_last w _
  have hF : ∀ W, Hid (Calls Tryd.prog 12 #[.string s] W fun e w' => e = .returned (.string f) ∧ Below W.heap.size W w') := fun W => by
    have h := fold_any s W (by unfold maxLen; omega)
    rw [hf] at h
    exact h
  have hH : Hid (Below w.heap.size w Wa ∧ Wa.heap[w.heap.size]? = some (.cells #[.string ⟨#[]⟩, .slice none 0 0, .string ⟨#[]⟩, .string ⟨#[]⟩, .int .i64 0, .int .i64 0] 33 (0, 0)) ∧ NumT3 w) := ⟨hBa, hra, ht⟩
  have hfz : Hid (f.size ≤ maxLen) := by
    unfold Hid
    rw [← hf, S_size]
    unfold fold
    rw [List.length_map, size_l]
    unfold maxLen
    omega
  rw [hf]
  clear hBa hra ht hf
  go_enter Tryd.func6, Tryd.ntmps6
  go_wp2_with fail
  refine (hF _).out.mono ?_
  rintro e W1 ⟨rfl, hb1⟩
  obtain ⟨W2, hW2⟩ : ∃ W2, W1.alloc (.cells #[.string f] 9) = W2 := ⟨_, rfl⟩
  have hB2 : Below W1.heap.size W1 W2 := by rw [← hW2]; exact (Below.refl _ _).alloc (Nat.le_refl _) _
  have hc2 : W2.cell? ⟨W1.heap.size, 0, none⟩ = some (.string f) := by rw [← hW2]; exact (row_cell (heap_alloc_last W1 _) (j := 0) (by simp)).1
  have hOB := openBook_one f W1.heap.size W2 hc2
  have hH2 : Hid (Below w.heap.size w W2 ∧ W2.heap[w.heap.size]? = some (.cells #[.string ⟨#[]⟩, .slice none 0 0, .string ⟨#[]⟩, .string ⟨#[]⟩, .int .i64 0, .int .i64 0] 33 (0, 0)) ∧ NumT3 w) := by
    have h3 : Below Wa.heap.size Wa W2 := hb1.trans (hB2.mono hb1.size)
    exact ⟨hH.out.1.trans (h3.mono hH.out.1.size), (h3.block _ (Array.getElem?_eq_some_iff.1 hH.out.2.1).1).trans hH.out.2.1, hH.out.2.2⟩
  clear hH hb1 hB2 hc2 hF
  go_wp2_with fail
  refine hOB.mono ?_
  rintro e W3 ⟨B, cs, hB, rfl, hcs, hcz, hco, hlast, hM3, hB3⟩
  have st := st_book W3 cs hcz hco
  obtain ⟨W4, hW4⟩ : ∃ W4, W3.alloc (.cells cs 49) = W4 := ⟨_, rfl⟩
  rw [hW4] at st
  have hB4 : Below W3.heap.size W3 W4 := by rw [← hW4]; exact (Below.refl _ _).alloc (Nat.le_refl _) _
  have hb4 : W4.heap[W3.heap.size]? = some (.cells cs 49 (0, 0)) := by rw [← hW4]; exact heap_alloc_last W3 _
  have hM4 : Hid (W4.ownsMap Tryd.prog 9 (plainElem (H := Nat) Tryd.prog 3) B 186 (mapD [f] (upF 62))) := by
    have h := hM3.out.kept (World.grownBy_alloc W3 (.cells cs 49) none) (by simp)
    rw [hW4] at h
    exact h
  have q4 : W4.cell? ⟨W3.heap.size, 186, none⟩ = some (.map (some B)) := by rw [cell_of_row W4 _ 186 _ _ _ hb4]; exact hlast
  have hbk4 : Hid (Book W4 W3.heap.size B) := by unfold Hid Book; rw [hcs.out]; exact hb4
  have hH4 : Hid (Below w.heap.size w W4 ∧ W4.heap[w.heap.size]? = some (.cells #[.string ⟨#[]⟩, .slice none 0 0, .string ⟨#[]⟩, .string ⟨#[]⟩, .int .i64 0, .int .i64 0] 33 (0, 0)) ∧ NumT3 w) := by
    have h3 : Below W2.heap.size W2 W4 := hB3.trans (hB4.mono hB3.size)
    exact ⟨hH2.out.1.trans (h3.mono hH2.out.1.size), (h3.block _ (Array.getElem?_eq_some_iff.1 hH2.out.2.1).1).trans hH2.out.2.1, hH2.out.2.2⟩
  clear hM3 hB3 hB4 hb4 hH2 hOB hW4 hW2 hWa hco hlast
  go_upto_region 3 with fail
  obtain ⟨D, hD⟩ : ∃ D, mapD [f] (upF 62) = D := ⟨_, rfl⟩
  have hhas := map_has f
  have hat := fun i h => map_at f i h (.lit (.int .i64 0))
  rw [hD] at hM4 hhas hat
  have hkey : Hid (keyOf Tryd.prog 9 (.string f) = some (.string f.data.toList)) := key_str f hfz.out
  obtain ⟨r0, f0⟩ := row_cell hH4.out.2.1 (j := 0) (by simp)
  obtain ⟨r1, f1⟩ := row_cell hH4.out.2.1 (j := 1) (by simp)
  obtain ⟨r2, f2⟩ := row_cell hH4.out.2.1 (j := 2) (by simp)
  obtain ⟨r3, f3⟩ := row_cell hH4.out.2.1 (j := 3) (by simp)
  obtain ⟨r4, f4⟩ := row_cell hH4.out.2.1 (j := 4) (by simp)
  obtain ⟨r5, f5⟩ := row_cell hH4.out.2.1 (j := 5) (by simp)
  simp only [List.getElem_toArray, List.getElem_cons_zero, List.getElem_cons_succ] at r0 r1 r2 r3 r4 r5
  clear hD st hcz hcs
  cases hrow : rowOf f with
  | none =>
    rw [hrow] at hhas
    have hhas' : Maps.has D (.string f.data.toList) = false := hhas
    clear hhas hat
    go_wp2_with (at_lookup; refine wpList_lookup_own_ok_int _ rfl _ _ 47 rfl 9 3 .i64 (Maps.string_keyed Tryd.underlying9) Tryd.underlying47 Tryd.underlying3 (Tryd.zeroValue3 _) B 186 D rfl hM4.out _ _ rfl hkey.out ?_; intro c hatc hwc)
    obtain ⟨Wf, hWf, k1, k2, k3⟩ := six hH4.out.2.1 (.string ⟨#[]⟩) (.slice none 0 0) (.string ⟨#[]⟩) (.string ⟨#[]⟩) (.int .i64 0) (.int .i64 0)
    rw [hWf]
    have hl := ld_type Wf w.heap.size _ k1 rfl
    refine bodyPost_ret (v := .tuple #[.agg #[.string ⟨#[]⟩, .slice none 0 0, .string ⟨#[]⟩, .string ⟨#[]⟩, .int .i64 0, .int .i64 0], .bool false]) ?_ rfl ⟨Or.inl ⟨hrow, rfl⟩, k3 _ _ (Nat.le_refl _) hH4.out.1⟩
    rw [results_cell_tmp rfl]
    simp [asAddr, hl, Result.andThen]
  | some i =>
    rw [hrow] at hhas
    have hhas' : Maps.has D (.string f.data.toList) = true := hhas
    have hati := hat i hrow
    have hR : Hid (Calls Tryd.prog 17 #[.pointer (some ⟨W3.heap.size, 0, none⟩), .int .i64 (i.1 : Int)] W4 fun e w' => ∃ v, e = .returned v ∧ RowX w' W4.heap.size i v ∧ Below W4.heap.size W4 w') := bookRowX_any W3.heap.size B i W4 hbk4.out (hH4.out.2.2.below hH4.out.1)
    have hati' : Hid (D.atKey (.string f.data.toList) (.lit (.int .i64 0)) = .lit (.int .i64 (i.1 : Int))) := hati
    clear hhas hat hati
    go_wp2_with (at_lookup; refine wpList_lookup_own_ok_int _ rfl _ _ 47 rfl 9 3 .i64 (Maps.string_keyed Tryd.underlying9) Tryd.underlying47 Tryd.underlying3 (Tryd.zeroValue3 _) B 186 D rfl hM4.out _ _ rfl hkey.out ?_; intro c hatc hwc; obtain rfl : c = (i.1 : Int) := (by rw [hati'.out] at hatc; injection hatc with hatc; injection hatc with _ hatc; exact hatc.symm))
    refine hR.out.mono ?_
    rintro e W5 ⟨v, rfl, hrow5, hB5⟩
    have hR5 : W5.heap[w.heap.size]? = some (.cells #[.string ⟨#[]⟩, .slice none 0 0, .string ⟨#[]⟩, .string ⟨#[]⟩, .int .i64 0, .int .i64 0] 33 (0, 0)) := (hB5.block _ (Array.getElem?_eq_some_iff.1 hH4.out.2.1).1).trans hH4.out.2.1
    have hHB5 : Hid (Below w.heap.size w W5) := hH4.out.1.trans (hB5.mono hH4.out.1.size)
    have hlt4 : Hid (w.heap.size < W4.heap.size) := (Array.getElem?_eq_some_iff.1 hH4.out.2.1).1
    have hrow5' : Hid (RowX W5 W4.heap.size i v) := hrow5
    obtain ⟨al, rfl, hal⟩ := hrow5
    obtain ⟨al1, al2, al3, rfl⟩ : ∃ a1 a2 a3, al = .slice a1 a2 a3 := by
      rcases hal with ⟨_, h⟩ | ⟨_, g, c, _, h, _⟩
      · exact ⟨_, _, _, h⟩
      · exact ⟨_, _, _, h⟩
    clear r0 r1 r2 r3 r4 r5 f0 f1 f2 f3 f4 f5
    obtain ⟨r0, f0⟩ := row_cell hR5 (j := 0) (by simp)
    obtain ⟨r1, f1⟩ := row_cell hR5 (j := 1) (by simp)
    obtain ⟨r2, f2⟩ := row_cell hR5 (j := 2) (by simp)
    obtain ⟨r3, f3⟩ := row_cell hR5 (j := 3) (by simp)
    obtain ⟨r4, f4⟩ := row_cell hR5 (j := 4) (by simp)
    obtain ⟨r5, f5⟩ := row_cell hR5 (j := 5) (by simp)
    simp only [List.getElem_toArray, List.getElem_cons_zero, List.getElem_cons_succ] at r0 r1 r2 r3 r4 r5
    generalize SYN.getD i.1 0 = y1 at *
    generalize USG.getD i.1 0 = y2 at *
    have hR5' : Hid (W5.heap[w.heap.size]? = some (.cells #[.string ⟨#[]⟩, .slice none 0 0, .string ⟨#[]⟩, .string ⟨#[]⟩, .int .i64 0, .int .i64 0] 33 (0, 0))) := hR5
    clear hR5 hB5 hR hal hH4 q4 hM4 hbk4 hB
    go_wp2_with fail
    obtain ⟨Wf, hWf, k1, k2, k3⟩ := six hR5'.out (.string (rowL i).1) (.slice al1 al2 al3) (.string (rowL i).2.2) (.string (supN i)) (.int .i64 y1) (.int .i64 y2)
    rw [hWf]
    have hl := ld_type Wf w.heap.size _ k1 rfl
    refine bodyPost_ret (v := .tuple #[.agg #[.string (rowL i).1, .slice al1 al2 al3, .string (rowL i).2.2, .string (supN i), .int .i64 y1, .int .i64 y2], .bool true]) ?_ rfl ⟨Or.inr ⟨i, _, hrow, rfl, ?_⟩, k3 _ _ (Nat.le_refl _) hHB5.out⟩
    · rw [results_cell_tmp rfl]
      simp [asAddr, hl, Result.andThen]
    · have h := hrow5'.out.of (W' := Wf) (fun y hy _ => k2 y (by have := hlt4.out; omega))
      obtain ⟨al, e, h4⟩ := h
      refine ⟨al, e, ?_⟩
      rcases h4 with h4 | ⟨m6, g, c, q1, q3, q4⟩
      · exact Or.inl h4
      · exact Or.inr ⟨m6, g, c, by have := hlt4.out; omega, q3, q4⟩
end Go.Proofs.YtcmdmkajpbhcaaaDoor
