import Derived.Test.YtcmdmkajpbhcaaaDoorAtRefRow2
namespace Go.Proofs.YtcmdmkajpbhcaaaDoor
open Go.RowKit
open TextMath (fold lo)

set_option maxRecDepth 100000 in
set_option maxHeartbeats 400000 in
theorem refFind_any (s : ByteArray) (w : World) (hs : s.size ≤ 140737488355328) (ht : NumTab w) :
    Calls Tryd.prog 23 #[.string s] w fun e w' => FindIs w' w.heap.size (S (fold s.data.toList)) e ∧ Below w.heap.size w w' := by
  obtain ⟨f, hf⟩ : ∃ f, S (fold s.data.toList) = f := ⟨_, rfl⟩
  obtain ⟨Wa, hWa⟩ : ∃ Wa, w.alloc (.cells #[.string ⟨#[]⟩, .slice none 0 0, .string ⟨#[]⟩, .string ⟨#[]⟩, .int .i64 0, .int .i64 0] 33) = Wa := ⟨_, rfl⟩
  have hBa : Below w.heap.size w Wa := by rw [← hWa]; exact (Below.refl _ _).alloc (Nat.le_refl _) _
  have hra : Wa.heap[w.heap.size]? = some (.cells #[.string ⟨#[]⟩, .slice none 0 0, .string ⟨#[]⟩, .string ⟨#[]⟩, .int .i64 0, .int .i64 0] 33 (0, 0)) := by rw [← hWa]; exact heap_alloc_last w _
  have hF : Hid (Calls Tryd.prog 20 #[.string s] Wa fun e w' => e = .returned (.int .i64 (rowN f)) ∧ Below Wa.heap.size Wa w') := by
    have h := refRow_any s Wa hs
    rw [hf] at h
    exact h
  have hH : Hid (Below w.heap.size w Wa ∧ Wa.heap[w.heap.size]? = some (.cells #[.string ⟨#[]⟩, .slice none 0 0, .string ⟨#[]⟩, .string ⟨#[]⟩, .int .i64 0, .int .i64 0] 33 (0, 0)) ∧ NumTab w) := ⟨hBa, hra, ht⟩
  rw [hf]
  clear hBa hra ht hf
  go_enter Tryd.func23, Tryd.ntmps23
  go_wp2_with fail
  refine hF.out.mono ?_
  rintro e W4 ⟨rfl, hb1⟩
  have hH4 : Hid (Below w.heap.size w W4 ∧ W4.heap[w.heap.size]? = some (.cells #[.string ⟨#[]⟩, .slice none 0 0, .string ⟨#[]⟩, .string ⟨#[]⟩, .int .i64 0, .int .i64 0] 33 (0, 0)) ∧ NumTab w) :=
    ⟨hH.out.1.trans (hb1.mono hH.out.1.size), (hb1.block _ (Array.getElem?_eq_some_iff.1 hH.out.2.1).1).trans hH.out.2.1, hH.out.2.2⟩
  clear hH hb1 hF hWa
  obtain ⟨rn, hrn⟩ : ∃ rn, rowN f = rn := ⟨_, rfl⟩
  rw [hrn]
  obtain ⟨r0, f0⟩ := row_cell hH4.out.2.1 (j := 0) (by simp)
  obtain ⟨r1, f1⟩ := row_cell hH4.out.2.1 (j := 1) (by simp)
  obtain ⟨r2, f2⟩ := row_cell hH4.out.2.1 (j := 2) (by simp)
  obtain ⟨r3, f3⟩ := row_cell hH4.out.2.1 (j := 3) (by simp)
  obtain ⟨r4, f4⟩ := row_cell hH4.out.2.1 (j := 4) (by simp)
  obtain ⟨r5, f5⟩ := row_cell hH4.out.2.1 (j := 5) (by simp)
  simp only [List.getElem_toArray, List.getElem_cons_zero, List.getElem_cons_succ] at r0 r1 r2 r3 r4 r5
  cases hrow : rowOf f with
  | none =>
    have hrn' : rn = -1 := by rw [← hrn]; unfold rowN; rw [hrow]
    clear hrn
    subst hrn'
    go_wp2_with fail
    obtain ⟨Wf, hWf, k1, k2, k3⟩ := six hH4.out.2.1 (.string ⟨#[]⟩) (.slice none 0 0) (.string ⟨#[]⟩) (.string ⟨#[]⟩) (.int .i64 0) (.int .i64 0)
    rw [hWf]
    have hl := ld_type Wf w.heap.size _ k1 rfl
    refine bodyPost_ret (v := .tuple #[.agg #[.string ⟨#[]⟩, .slice none 0 0, .string ⟨#[]⟩, .string ⟨#[]⟩, .int .i64 0, .int .i64 0], .bool false]) ?_ rfl ⟨Or.inl ⟨hrow, rfl⟩, k3 _ _ (Nat.le_refl _) hH4.out.1⟩
    rw [results_cell_tmp rfl]
    simp [asAddr, hl, Result.andThen]
  | some i =>
    have hrn' : rn = (i.1 : Int) := by rw [← hrn]; unfold rowN; rw [hrow]
    clear hrn
    subst hrn'
    have hR : Hid (Calls Tryd.prog 37 #[.int .i64 (i.1 : Int)] W4 fun e w' => ∃ v, e = .returned v ∧ RowIs w' W4.heap.size i v ∧ Below W4.heap.size W4 w') := refRowTold_any i W4 (hH4.out.2.2.below hH4.out.1)
    have i0 : (0 : Int) ≤ (i.1 : Int) := Int.natCast_nonneg _
    have i1 : ¬ ((i.1 : Int) < 0) := by omega
    go_wp2_with fail
    refine hR.out.mono ?_
    rintro e W5 ⟨v, rfl, hrow5, hB5⟩
    have hR5 : W5.heap[w.heap.size]? = some (.cells #[.string ⟨#[]⟩, .slice none 0 0, .string ⟨#[]⟩, .string ⟨#[]⟩, .int .i64 0, .int .i64 0] 33 (0, 0)) := (hB5.block _ (Array.getElem?_eq_some_iff.1 hH4.out.2.1).1).trans hH4.out.2.1
    have hHB5 : Hid (Below w.heap.size w W5) := hH4.out.1.trans (hB5.mono hH4.out.1.size)
    have hlt4 : Hid (w.heap.size < W4.heap.size) := (Array.getElem?_eq_some_iff.1 hH4.out.2.1).1
    have hrow5' : Hid (RowIs W5 W4.heap.size i v) := hrow5
    obtain ⟨al, rfl, hal⟩ := hrow5
    obtain ⟨al1, al2, al3, rfl⟩ : ∃ a1 a2 a3, al = .slice a1 a2 a3 := by
      rcases hal with ⟨_, h⟩ | ⟨_, g, c, _, h, _⟩
      · exact ⟨_, _, _, h⟩
      · exact ⟨_, _, _, h⟩
    clear r0 r1 r2 r3 r4 r5 f0 f1 f2 f3 f4 f5
    obtain ⟨r0, f0⟩ := row_cell hR5 (j := 0) (by simp)
    obtain ⟨r1, f1⟩ := row_cell hR5 (j := 1) (by simp)
    obtain ⟨r2, f2⟩ := row_cell hR5 (j := 2) (by simp)
    obtain ⟨r3, f3⟩ := row_cell hR5 (j := 3) (by simp)
    obtain ⟨r4, f4⟩ := row_cell hR5 (j := 4) (by simp)
    obtain ⟨r5, f5⟩ := row_cell hR5 (j := 5) (by simp)
    simp only [List.getElem_toArray, List.getElem_cons_zero, List.getElem_cons_succ] at r0 r1 r2 r3 r4 r5
    generalize SYN.getD i.1 0 = y1 at *
    generalize USG.getD i.1 0 = y2 at *
    have hR5' : Hid (W5.heap[w.heap.size]? = some (.cells #[.string ⟨#[]⟩, .slice none 0 0, .string ⟨#[]⟩, .string ⟨#[]⟩, .int .i64 0, .int .i64 0] 33 (0, 0))) := hR5
    clear hR5 hB5 hR hal hH4
    go_wp2_with fail
    obtain ⟨Wf, hWf, k1, k2, k3⟩ := six hR5'.out (.string (rowL i).1) (.slice al1 al2 al3) (.string (rowL i).2.2) (.string (supN i)) (.int .i64 y1) (.int .i64 y2)
    rw [hWf]
    have hl := ld_type Wf w.heap.size _ k1 rfl
    refine bodyPost_ret (v := .tuple #[.agg #[.string (rowL i).1, .slice al1 al2 al3, .string (rowL i).2.2, .string (supN i), .int .i64 y1, .int .i64 y2], .bool true]) ?_ rfl ⟨Or.inr ⟨i, _, hrow, rfl, ?_⟩, k3 _ _ (Nat.le_refl _) hHB5.out⟩
    · rw [results_cell_tmp rfl]
      simp [asAddr, hl, Result.andThen]
    · have h := hrow5'.out.of (W' := Wf) (fun y hy _ => k2 y (by have := hlt4.out; omega))
      obtain ⟨al, e, h4⟩ := h
      refine ⟨al, e, ?_⟩
      rcases h4 with h4 | ⟨m6, g, c, q1, q3, q4⟩
      · exact Or.inl h4
      · exact Or.inr ⟨m6, g, c, by have := hlt4.out; omega, q3, q4⟩
end Go.Proofs.YtcmdmkajpbhcaaaDoor
