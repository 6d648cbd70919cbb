import Derived.Test.YtoiilplnhecokaaDoorAtRow
import Derived.Test.YtoiilplnhecokaaDoorFold
import Derived.BigQuiet
namespace Go.Proofs.YtoiilplnhecokaaDoor
open Go.RowKit
open TextMath (fold lo)

theorem con_one (f : ByteArray) (g : Nat) (w : World) (hg : w.cell? ⟨g, 0, none⟩ = some (.string f)) : ∀ W x, Below w.heap.size w W → Hid (Calls Tryd.prog 31 #[.slice (some ⟨g, 0, none⟩) 1 1, .string x] W fun e w' => e = .returned (.bool (Lib.containsS [f] x)) ∧ w' = W) := fun W x hb => by
  have h := Tryd.slices_Contains_string g 0 1 1 [f] x W (by simp) (by decide) (fun j hj => by
    have : j = 0 := by simp at hj; exact hj
    subst this
    rw [hb.cell (World.block_lt_of_cell? w _ hg)]
    exact hg)
  exact h
/-- A book of one asked text, its cells a letter. -/
theorem openBook_one (f : ByteArray) (g : Nat) (w : World) (hg : w.cell? ⟨g, 0, none⟩ = some (.string f)) :
    Calls Tryd.prog 26 #[.slice (some ⟨g, 0, none⟩) 1 1] w fun e w' => ∃ B cs, w.heap.size ≤ B ∧ e = .returned (.agg cs) ∧ Hid (bkC B (upF 62) = cs) ∧ cs.size = 187 ∧ (∀ v ∈ cs.toList, v.oneCell' = true) ∧ cs[186]? = some (.map (some B)) ∧ Hid (w'.ownsMap Tryd.prog 9 (plainElem (H := Nat) Tryd.prog 3) B 186 (mapD [f] (upF 62))) ∧ Below w.heap.size w w' := by
  refine (openBook_any _ 1 1 [f] w (con_one f g w hg)).mono ?_
  intro e w' h
  obtain ⟨B, h1, h2, h3, h4⟩ := h
  exact ⟨B, bkC B (upF 62), h1, h2, rfl, bkC_size _ _, bkC_one _ _, bkC_last _ _, h3, h4⟩
theorem six {W : World} {R : Nat} {t : TypeId} {a0 a1 a2 a3 a4 a5 : Value} (h : W.heap[R]? = some (.cells #[a0, a1, a2, a3, a4, a5] t (0, 0))) (v0 v1 v2 v3 v4 v5 : Value) :
    ∃ W', (((((W.setCell ⟨R, 0, none⟩ v0).setCell ⟨R, 1, none⟩ v1).setCell ⟨R, 2, none⟩ v2).setCell ⟨R, 3, none⟩ v3).setCell ⟨R, 4, none⟩ v4).setCell ⟨R, 5, none⟩ v5 = W' ∧ W'.heap[R]? = some (.cells #[v0, v1, v2, v3, v4, v5] t (0, 0)) ∧ (∀ y, y ≠ R → W'.heap[y]? = W.heap[y]?) ∧ ∀ B u, B ≤ R → Below B u W → Below B u W' := by
  refine ⟨_, rfl, Go.heap_setCell_same _ _ _ _ _ _ (Go.heap_setCell_same _ _ _ _ _ _ (Go.heap_setCell_same _ _ _ _ _ _ (Go.heap_setCell_same _ _ _ _ _ _ (Go.heap_setCell_same _ _ _ _ _ _ (Go.heap_setCell_same _ _ _ _ _ _ h))))), fun y hy => ?_, fun B u hB hu => ?_⟩
  · rw [Below.heap_setCell _ _ _ _ hy, Below.heap_setCell _ _ _ _ hy, Below.heap_setCell _ _ _ _ hy, Below.heap_setCell _ _ _ _ hy, Below.heap_setCell _ _ _ _ hy, Below.heap_setCell _ _ _ _ hy]
  · refine Below.setCell (Below.setCell (Below.setCell (Below.setCell (Below.setCell (Below.setCell hu ?_ _) ?_ _) ?_ _) ?_ _) ?_ _) ?_ _ <;> exact hB
theorem ld_type (W : World) (R : Nat) (cs : Array Value) (h : W.heap[R]? = some (.cells cs 50 (0, 0))) (hz : cs.size = 6) : (loadVar 50 ⟨R, 0, none⟩).run Tryd.prog W = .ok (.agg cs) W :=
  run_loadVar_row W R 50 50 cs (0, 0) _ h Tryd.underlying50 rfl (by rw [hz]; kernel_rfl)
theorem RowIs.of {W W' : World} {B : Nat} {i : Fin 62} {v : Value} (h : RowIs W B i v) (hb : ∀ y, B ≤ y → y < W.heap.size → W'.heap[y]? = W.heap[y]?) : RowIs W' B i v := by
  obtain ⟨al, e, h4⟩ := h
  refine ⟨al, e, ?_⟩
  rcases h4 with h4 | ⟨m6, g, c, q1, q3, q4⟩
  · exact Or.inl h4
  · refine Or.inr ⟨m6, g, c, q1, q3, ?_⟩
    rw [World.cell?_of_block (w := W) (a := ⟨g, 0, none⟩) (hb g q1 (World.block_lt_of_cell? W _ q4))]
    exact q4
/-- What Find answers of a folded text. -/
def FindIs (W : World) (B : Nat) (f : ByteArray) (e : Ending) : Prop :=
  (rowOf f = none ∧ e = .returned (.tuple #[.agg #[.string ⟨#[]⟩, .slice none 0 0, .string ⟨#[]⟩, .string ⟨#[]⟩, .int .i64 0, .int .i64 0], .bool false])) ∨
  (∃ i v, rowOf f = some i ∧ e = .returned (.tuple #[v, .bool true]) ∧ RowIs W B i v)

theorem st_book (W : World) (cs : Array Value) (hz : cs.size = 187) (h1 : ∀ v ∈ cs.toList, v.oneCell' = true) : (storeCells ⟨W.heap.size, 0, none⟩ cs.toList 0).run Tryd.prog (W.alloc (.cells Tryd.zeroCells74 74)) = .ok () (W.alloc (.cells cs 74)) := by
  refine run_storeCells_new W _ _ cs (by rw [hz]; kernel_rfl) (by rw [hz]; kernel_rfl) ?_
  rw [Array.all_eq_true']
  intro v hv
  exact h1 v (by simpa using hv)

set_option maxRecDepth 100000 in
set_option maxHeartbeats 400000 in
theorem find_any (s : ByteArray) (w : World) (hs : s.size ≤ 140737488355328) (ht : NumT3 w) :
    Calls Tryd.prog 15 #[.string s] w fun e w' => FindIs w' w.heap.size (S (fold s.data.toList)) e ∧ Below w.heap.size w w' := by
  obtain ⟨f, hf⟩ : ∃ f, S (fold s.data.toList) = f := ⟨_, rfl⟩
  obtain ⟨Wa, hWa⟩ : ∃ Wa, w.alloc (.cells #[.string ⟨#[]⟩, .slice none 0 0, .string ⟨#[]⟩, .string ⟨#[]⟩, .int .i64 0, .int .i64 0] 50) = Wa := ⟨_, rfl⟩
  have hBa : Below w.heap.size w Wa := by rw [← hWa]; exact (Below.refl _ _).alloc (Nat.le_refl _) _
  have hra : Wa.heap[w.heap.size]? = some (.cells #[.string ⟨#[]⟩, .slice none 0 0, .string ⟨#[]⟩, .string ⟨#[]⟩, .int .i64 0, .int .i64 0] 50 (0, 0)) := by rw [← hWa]; exact heap_alloc_last w _
  have hF : ∀ W, Hid (Calls Tryd.prog 25 #[.string s] W fun e w' => e = .returned (.string f) ∧ Below W.heap.size W w') := fun W => by
    have h := fold_any s W (by unfold maxLen; omega)
    rw [hf] at h
    exact h
  have hH : Hid (Below w.heap.size w Wa ∧ Wa.heap[w.heap.size]? = some (.cells #[.string ⟨#[]⟩, .slice none 0 0, .string ⟨#[]⟩, .string ⟨#[]⟩, .int .i64 0, .int .i64 0] 50 (0, 0)) ∧ NumT3 w) := ⟨hBa, hra, ht⟩
  have hfz : Hid (f.size ≤ maxLen) := by
    unfold Hid
    rw [← hf, S_size]
    unfold fold
    rw [List.length_map, size_l]
    unfold maxLen
    omega
  rw [hf]
  clear hBa hra ht hf
  go_enter Tryd.func15, Tryd.ntmps15
  go_wp2_with fail
  refine (hF _).out.mono ?_
  rintro e W1 ⟨rfl, hb1⟩
  obtain ⟨W2, hW2⟩ : ∃ W2, W1.alloc (.cells #[.string f] 9) = W2 := ⟨_, rfl⟩
  have hB2 : Below W1.heap.size W1 W2 := by rw [← hW2]; exact (Below.refl _ _).alloc (Nat.le_refl _) _
  have hc2 : W2.cell? ⟨W1.heap.size, 0, none⟩ = some (.string f) := by rw [← hW2]; exact (row_cell (heap_alloc_last W1 _) (j := 0) (by simp)).1
  have hOB := openBook_one f W1.heap.size W2 hc2
  have hH2 : Hid (Below w.heap.size w W2 ∧ W2.heap[w.heap.size]? = some (.cells #[.string ⟨#[]⟩, .slice none 0 0, .string ⟨#[]⟩, .string ⟨#[]⟩, .int .i64 0, .int .i64 0] 50 (0, 0)) ∧ NumT3 w) := by
    have h3 : Below Wa.heap.size Wa W2 := hb1.trans (hB2.mono hb1.size)
    exact ⟨hH.out.1.trans (h3.mono hH.out.1.size), (h3.block _ (Array.getElem?_eq_some_iff.1 hH.out.2.1).1).trans hH.out.2.1, hH.out.2.2⟩
  clear hH hb1 hB2 hc2 hF
  go_wp2_with fail
  refine hOB.mono ?_
  rintro e W3 ⟨B, cs, hB, rfl, hcs, hcz, hco, hlast, hM3, hB3⟩
  have st := st_book W3 cs hcz hco
  obtain ⟨W4, hW4⟩ : ∃ W4, W3.alloc (.cells cs 74) = W4 := ⟨_, rfl⟩
  rw [hW4] at st
  have hB4 : Below W3.heap.size W3 W4 := by rw [← hW4]; exact (Below.refl _ _).alloc (Nat.le_refl _) _
  have hb4 : W4.heap[W3.heap.size]? = some (.cells cs 74 (0, 0)) := by rw [← hW4]; exact heap_alloc_last W3 _
  have hM4 : Hid (W4.ownsMap Tryd.prog 9 (plainElem (H := Nat) Tryd.prog 3) B 186 (mapD [f] (upF 62))) := by
    have h := hM3.out.kept (World.grownBy_alloc W3 (.cells cs 74) none) (by simp)
    rw [hW4] at h
    exact h
  have q4 : W4.cell? ⟨W3.heap.size, 186, none⟩ = some (.map (some B)) := by rw [cell_of_row W4 _ 186 _ _ _ hb4]; exact hlast
  have hbk4 : Hid (Book W4 W3.heap.size B) := by unfold Hid Book; rw [hcs.out]; exact hb4
  have hH4 : Hid (Below w.heap.size w W4 ∧ W4.heap[w.heap.size]? = some (.cells #[.string ⟨#[]⟩, .slice none 0 0, .string ⟨#[]⟩, .string ⟨#[]⟩, .int .i64 0, .int .i64 0] 50 (0, 0)) ∧ NumT3 w) := by
    have h3 : Below W2.heap.size W2 W4 := hB3.trans (hB4.mono hB3.size)
    exact ⟨hH2.out.1.trans (h3.mono hH2.out.1.size), (h3.block _ (Array.getElem?_eq_some_iff.1 hH2.out.2.1).1).trans hH2.out.2.1, hH2.out.2.2⟩
  clear hM3 hB3 hB4 hb4 hH2 hOB hW4 hW2 hWa hco hlast
  go_upto_region 3 with fail
  obtain ⟨D, hD⟩ : ∃ D, mapD [f] (upF 62) = D := ⟨_, rfl⟩
  have hhas := map_has f
  have hat := fun i h => map_at f i h (.lit (.int .i64 0))
  rw [hD] at hM4 hhas hat
  have hkey : Hid (keyOf Tryd.prog 9 (.string f) = some (.string f.data.toList)) := key_str f hfz.out
  obtain ⟨r0, f0⟩ := row_cell hH4.out.2.1 (j := 0) (by simp)
  obtain ⟨r1, f1⟩ := row_cell hH4.out.2.1 (j := 1) (by simp)
  obtain ⟨r2, f2⟩ := row_cell hH4.out.2.1 (j := 2) (by simp)
  obtain ⟨r3, f3⟩ := row_cell hH4.out.2.1 (j := 3) (by simp)
  obtain ⟨r4, f4⟩ := row_cell hH4.out.2.1 (j := 4) (by simp)
  obtain ⟨r5, f5⟩ := row_cell hH4.out.2.1 (j := 5) (by simp)
  simp only [List.getElem_toArray, List.getElem_cons_zero, List.getElem_cons_succ] at r0 r1 r2 r3 r4 r5
  clear hD st hcz hcs
  cases hrow : rowOf f with
  | none =>
    rw [hrow] at hhas
    have hhas' : Maps.has D (.string f.data.toList) = false := hhas
    clear hhas hat
    go_wp2_with (at_lookup; refine wpList_lookup_own_ok_int _ rfl _ _ 72 rfl 9 3 .i64 (Maps.string_keyed Tryd.underlying9) Tryd.underlying72 Tryd.underlying3 (Tryd.zeroValue3 _) B 186 D rfl hM4.out _ _ rfl hkey.out ?_; intro c hatc hwc)
    obtain ⟨Wf, hWf, k1, k2, k3⟩ := six hH4.out.2.1 (.string ⟨#[]⟩) (.slice none 0 0) (.string ⟨#[]⟩) (.string ⟨#[]⟩) (.int .i64 0) (.int .i64 0)
    rw [hWf]
    have hl := ld_type Wf w.heap.size _ k1 rfl
    refine bodyPost_ret (v := .tuple #[.agg #[.string ⟨#[]⟩, .slice none 0 0, .string ⟨#[]⟩, .string ⟨#[]⟩, .int .i64 0, .int .i64 0], .bool false]) ?_ rfl ⟨Or.inl ⟨hrow, rfl⟩, k3 _ _ (Nat.le_refl _) hH4.out.1⟩
    rw [results_cell_tmp rfl]
    simp [asAddr, hl, Result.andThen]
  | some i =>
    rw [hrow] at hhas
    have hhas' : Maps.has D (.string f.data.toList) = true := hhas
    have hati := hat i hrow
    have hR : Hid (Calls Tryd.prog 27 #[.pointer (some ⟨W3.heap.size, 0, none⟩), .int .i64 (i.1 : Int)] W4 fun e w' => ∃ v, e = .returned v ∧ RowIs w' W4.heap.size i v ∧ Below W4.heap.size W4 w') := bookRow_any W3.heap.size B i W4 hbk4.out (hH4.out.2.2.below hH4.out.1)
    have hati' : Hid (D.atKey (.string f.data.toList) (.lit (.int .i64 0)) = .lit (.int .i64 (i.1 : Int))) := hati
    clear hhas hat hati
    go_wp2_with (at_lookup; refine wpList_lookup_own_ok_int _ rfl _ _ 72 rfl 9 3 .i64 (Maps.string_keyed Tryd.underlying9) Tryd.underlying72 Tryd.underlying3 (Tryd.zeroValue3 _) B 186 D rfl hM4.out _ _ rfl hkey.out ?_; intro c hatc hwc; obtain rfl : c = (i.1 : Int) := (by rw [hati'.out] at hatc; injection hatc with hatc; injection hatc with _ hatc; exact hatc.symm))
    refine hR.out.mono ?_
    rintro e W5 ⟨v, rfl, hrow5, hB5⟩
    have hR5 : W5.heap[w.heap.size]? = some (.cells #[.string ⟨#[]⟩, .slice none 0 0, .string ⟨#[]⟩, .string ⟨#[]⟩, .int .i64 0, .int .i64 0] 50 (0, 0)) := (hB5.block _ (Array.getElem?_eq_some_iff.1 hH4.out.2.1).1).trans hH4.out.2.1
    have hHB5 : Hid (Below w.heap.size w W5) := hH4.out.1.trans (hB5.mono hH4.out.1.size)
    have hlt4 : Hid (w.heap.size < W4.heap.size) := (Array.getElem?_eq_some_iff.1 hH4.out.2.1).1
    have hrow5' : Hid (RowIs W5 W4.heap.size i v) := hrow5
    obtain ⟨al, rfl, hal⟩ := hrow5
    obtain ⟨al1, al2, al3, rfl⟩ : ∃ a1 a2 a3, al = .slice a1 a2 a3 := by
      rcases hal with ⟨_, h⟩ | ⟨_, g, c, _, h, _⟩
      · exact ⟨_, _, _, h⟩
      · exact ⟨_, _, _, h⟩
    clear r0 r1 r2 r3 r4 r5 f0 f1 f2 f3 f4 f5
    obtain ⟨r0, f0⟩ := row_cell hR5 (j := 0) (by simp)
    obtain ⟨r1, f1⟩ := row_cell hR5 (j := 1) (by simp)
    obtain ⟨r2, f2⟩ := row_cell hR5 (j := 2) (by simp)
    obtain ⟨r3, f3⟩ := row_cell hR5 (j := 3) (by simp)
    obtain ⟨r4, f4⟩ := row_cell hR5 (j := 4) (by simp)
    obtain ⟨r5, f5⟩ := row_cell hR5 (j := 5) (by simp)
    simp only [List.getElem_toArray, List.getElem_cons_zero, List.getElem_cons_succ] at r0 r1 r2 r3 r4 r5
    generalize SYN.getD i.1 0 = y1 at *
    generalize USG.getD i.1 0 = y2 at *
    have hR5' : Hid (W5.heap[w.heap.size]? = some (.cells #[.string ⟨#[]⟩, .slice none 0 0, .string ⟨#[]⟩, .string ⟨#[]⟩, .int .i64 0, .int .i64 0] 50 (0, 0))) := hR5
    clear hR5 hB5 hR hal hH4 q4 hM4 hbk4 hB
    go_wp2_with fail
    obtain ⟨Wf, hWf, k1, k2, k3⟩ := six hR5'.out (.string (rowL i).1) (.slice al1 al2 al3) (.string (rowL i).2.2) (.string (supN i)) (.int .i64 y1) (.int .i64 y2)
    rw [hWf]
    have hl := ld_type Wf w.heap.size _ k1 rfl
    refine bodyPost_ret (v := .tuple #[.agg #[.string (rowL i).1, .slice al1 al2 al3, .string (rowL i).2.2, .string (supN i), .int .i64 y1, .int .i64 y2], .bool true]) ?_ rfl ⟨Or.inr ⟨i, _, hrow, rfl, ?_⟩, k3 _ _ (Nat.le_refl _) hHB5.out⟩
    · rw [results_cell_tmp rfl]
      simp [asAddr, hl, Result.andThen]
    · have h := hrow5'.out.of (W' := Wf) (fun y hy _ => k2 y (by have := hlt4.out; omega))
      obtain ⟨al, e, h4⟩ := h
      refine ⟨al, e, ?_⟩
      rcases h4 with h4 | ⟨m6, g, c, q1, q3, q4⟩
      · exact Or.inl h4
      · exact Or.inr ⟨m6, g, c, by have := hlt4.out; omega, q3, q4⟩
end Go.Proofs.YtoiilplnhecokaaDoor
