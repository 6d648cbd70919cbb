import Derived.Test.YtoomoicjoockjaaGreatDoorAtDist
import Derived.Test.YtoomoicjoockjaaGreatDoorGDesc
namespace Go.Proofs.YtoomoicjoockjaaGreatDoor
open Go.RowKit
open TextMath (fold lo)
set_option linter.unusedVariables false

theorem results_cell_tmp2 {fn : Func} {t u v : Tmp} {ty : TypeId} (h : fn.results = #[.cell t ty, .tmp u, .tmp v]) (tmps : Array Value) (P : Program) (w : World) (p : Addr) (x : Value) (hp : tmps.getD t undef = .pointer (some p)) (hl : (loadVar ty p).run P w = .ok x w) :
    (results fn tmps).run P w = .ok (.tuple #[x, tmps.getD u undef, tmps.getD v undef]) w := by
  have hp' : tmps[t]?.getD undef = .pointer (some p) := by rw [← hp]; simp
  simp [results, h, hp', asAddr, hl, Result.andThen]
theorem duo {W : World} {R : Nat} {t : TypeId} {a0 a1 : Value} (h : W.heap[R]? = some (.cells #[a0, a1] t (0, 0))) (v0 v1 : Value) :
    ∃ W', (W.setCell ⟨R, 0, none⟩ v0).setCell ⟨R, 1, none⟩ v1 = W' ∧ W'.heap[R]? = some (.cells #[v0, v1] t (0, 0)) ∧ (∀ y, y ≠ R → W'.heap[y]? = W.heap[y]?) ∧ ∀ B u, B ≤ R → Below B u W → Below B u W' := by
  refine ⟨_, rfl, Go.heap_setCell_same _ _ _ _ _ _ (Go.heap_setCell_same _ _ _ _ _ _ h), fun y hy => ?_, fun B u hB hu => ?_⟩
  · rw [Below.heap_setCell _ _ _ _ hy, Below.heap_setCell _ _ _ _ hy]
  · refine Below.setCell (Below.setCell hu ?_ _) ?_ _ <;> exact hB
theorem ld_desc (W : World) (R : Nat) (cs : Array Value) (h : W.heap[R]? = some (.cells cs 92 (0, 0))) (hz : cs.size = 2) : (loadVar 92 ⟨R, 0, none⟩).run Tryz.prog W = .ok (.agg cs) W :=
  run_loadVar_row W R 92 92 cs (0, 0) _ h Tryz.underlying92 rfl (by rw [hz]; kernel_rfl)
/-- What Parse answers of a folded text. -/
def ParseIs (W : World) (B : Nat) (f : ByteArray) (e : Ending) : Prop :=
  ((desc f).2.2 = true ∧ ∃ v L, e = .returned (.tuple #[.agg #[.string (canN (typD f)), v], .int .i64 0, .int .i64 ((desc f).2.1 : Int)]) ∧ OwnS W B v (srt L) ∧ L.Nodup ∧ ∀ x, x ∈ L ↔ x ∈ (desc f).1) ∨
  ((desc f).2.2 = false ∧ e = .returned (.tuple #[.agg #[.string ⟨#[]⟩, .slice none 0 0], .int .i64 40, .int .i64 ((desc f).2.1 : Int)]))

set_option maxRecDepth 100000 in
set_option maxHeartbeats 1000000 in
theorem parse_any (s f : ByteArray) (hf : S (fold s.data.toList) = f) (w : World) (hs : s.size ≤ 4194304) :
    Calls Tryz.prog 52 #[.string s] w fun e w' => ParseIs w' w.heap.size f e ∧ Below w.heap.size w w' := by
  obtain ⟨Wa, hWa⟩ : ∃ Wa, w.alloc (.cells #[.string ⟨#[]⟩, .slice none 0 0] 92) = Wa := ⟨_, rfl⟩
  have hBa : Below w.heap.size w Wa := by rw [← hWa]; exact (Below.refl _ _).alloc (Nat.le_refl _) _
  have hra : Wa.heap[w.heap.size]? = some (.cells #[.string ⟨#[]⟩, .slice none 0 0] 92 (0, 0)) := by rw [← hWa]; exact heap_alloc_last w _
  have hF : ∀ W, Hid (Calls Tryz.prog 50 #[.string s] W fun e w' => e = .returned (.string f) ∧ Below W.heap.size W w') := fun W => by
    have h := fold_any s W (by unfold maxLen; omega)
    rw [hf] at h
    exact h
  have hfs : f.size ≤ 4194304 := by rw [← hf, fold_size]; exact hs
  have hRd : ∀ W, Hid (Calls Tryz.prog 64 #[.string f] W fun r w' => DescQ w' W.heap.size (typD f) (desc f) r ∧ Below W.heap.size W w') := fun W => desc_any f W hfs
  have hld : Hid ((desc f).1.length ≤ 4194304 ∧ ∀ x ∈ (desc f).1, x.length ≤ 4194304) := ⟨Nat.le_trans (desc_len f).1 hfs, fun x hx => Nat.le_trans ((desc_len f).2 x hx) hfs⟩
  have hzd : Hid ((typD f).size ≤ maxLen) := by
    unfold Hid maxLen typD
    simp only [ByteArray.size_extract]
    omega
  unfold ParseIs
  generalize typD f = X at *
  generalize desc f = D at *
  have hH : Hid (Below w.heap.size w Wa ∧ Wa.heap[w.heap.size]? = some (.cells #[.string ⟨#[]⟩, .slice none 0 0] 92 (0, 0))) := ⟨hBa, hra⟩
  clear hf hs hfs hBa hra
  go_enter Tryz.func52, Tryz.ntmps52
  go_wp2_with fail
  refine (hF Wa).out.mono ?_
  rintro e W1 ⟨rfl, hb1⟩
  have o1 : Hid (Below Wa.heap.size Wa W1) := hb1
  have h1 := hRd W1
  clear hF hRd hb1
  go_wp2_with fail
  refine h1.out.mono ?_
  rintro r W2 ⟨hQ, hb2⟩
  have o2 : Hid (Below Wa.heap.size Wa W2) := o1.out.trans (hb2.mono o1.out.size)
  clear h1 hb2
  rcases hQ with ⟨ok, v, rfl, hO⟩ | ⟨ok, rfl⟩
  · obtain ⟨va, vc, rfl, hrow⟩ := ownS_trow hO
    have ok' : Hid (D.2.2 = true) := ok
    have hrow' : Hid (TRow W2 va D.1) := hrow
    clear hO hrow ok o1
    obtain ⟨W3, hW3⟩ : ∃ W3, W2.alloc (.cells #[.string X] 9) = W3 := ⟨_, rfl⟩
    have hB3 : Below W2.heap.size W2 W3 := by rw [← hW3]; exact (Below.refl _ _).alloc (Nat.le_refl _) _
    have hc3 : W3.cell? ⟨W2.heap.size, 0, none⟩ = some (.string X) := by rw [← hW3]; exact (row_cell (heap_alloc_last W2 _) (j := 0) (by simp)).1
    have hOB := openBook_one X W2.heap.size W3 hc3
    have o3 : Hid (Below W2.heap.size W2 W3) := hB3
    clear hB3 hc3
    go_wp2_with fail
    refine hOB.mono ?_
    rintro e W4 ⟨B, cs, hB, rfl, hcs, hcz, hco, hlast, hM4, hB4⟩
    have st := st_book W4 cs hcz hco
    obtain ⟨W5, hW5⟩ : ∃ W5, W4.alloc (.cells cs 107) = W5 := ⟨_, rfl⟩
    rw [hW5] at st
    have hB5 : Below W4.heap.size W4 W5 := by rw [← hW5]; exact (Below.refl _ _).alloc (Nat.le_refl _) _
    have hb5 : W5.heap[W4.heap.size]? = some (.cells cs 107 (0, 0)) := by rw [← hW5]; exact heap_alloc_last W4 _
    have hM5 : W5.ownsMap Tryz.prog 9 (plainElem (H := Nat) Tryz.prog 3) B 186 (mapD [X] (upF 62)) := by
      have h := hM4.out.kept (World.grownBy_alloc W4 (.cells cs 107) none) (by simp)
      rw [hW5] at h
      exact h
    have hbk5 : Book W5 W4.heap.size B := by unfold Book; rw [hcs.out]; exact hb5
    have o5 : Hid (Below W2.heap.size W2 W5) := by
      have h3 : Below W3.heap.size W3 W5 := hB4.trans (hB5.mono hB4.size)
      exact o3.out.trans (h3.mono o3.out.size)
    have hC : Hid (Calls Tryz.prog 66 #[.pointer (some ⟨W4.heap.size, 0, none⟩), .string X] W5 fun e w' => e = .returned (.string (canN X)) ∧ w' = W5) := canonical_any X W4.heap.size B W5 hbk5 hM5 hzd.out
    have hDi := distinct_any va D.1 vc W5 (hrow'.out.below o5.out) hld.out.1 hld.out.2
    have h15 : Hid (Below w.heap.size w W5 ∧ W5.heap[w.heap.size]? = some (.cells #[.string ⟨#[]⟩, .slice none 0 0] 92 (0, 0))) := by
      have h : Below Wa.heap.size Wa W5 := o2.out.trans (o5.out.mono o2.out.size)
      exact ⟨hH.out.1.trans (h.mono hH.out.1.size), (h.block _ (Array.getElem?_eq_some_iff.1 hH.out.2).1).trans hH.out.2⟩
    clear hM4 hB4 hB5 hb5 hOB hW5 hW3 hco hlast hM5 hbk5 hcs hB o2 o3 o5 hH hrow' hld hzd
    go_wp2_with fail
    refine hC.out.mono ?_
    rintro e W5' ⟨rfl, hW5⟩
    subst hW5
    clear st hcz hC
    go_wp2_with fail
    refine hDi.mono ?_
    rintro e W6 ⟨v6, L, rfl, hO6, hnd, hmem, hb6⟩
    have h16 : Below w.heap.size w W6 ∧ W6.heap[w.heap.size]? = some (.cells #[.string ⟨#[]⟩, .slice none 0 0] 92 (0, 0)) := ⟨h15.out.1.trans (hb6.mono h15.out.1.size), (hb6.block _ (Array.getElem?_eq_some_iff.1 h15.out.2).1).trans h15.out.2⟩
    have hlt : Hid (w.heap.size < W5'.heap.size) := (Array.getElem?_eq_some_iff.1 h15.out.2).1
    have hO6' : Hid (OwnS W6 W5'.heap.size v6 (srt L) ∧ L.Nodup ∧ ∀ x, x ∈ L ↔ x ∈ D.1) := ⟨hO6, hnd, hmem⟩
    have h16' : Hid (Below w.heap.size w W6 ∧ W6.heap[w.heap.size]? = some (.cells #[.string ⟨#[]⟩, .slice none 0 0] 92 (0, 0))) := h16
    obtain ⟨r0, f0⟩ := row_cell h16.2 (j := 0) (by simp)
    obtain ⟨r1, f1⟩ := row_cell h16.2 (j := 1) (by simp)
    simp only [List.getElem_toArray, List.getElem_cons_zero, List.getElem_cons_succ] at r0 r1
    obtain ⟨v6a, v6n, v6c, rfl⟩ : ∃ a n c, v6 = .slice a n c := by
      rcases ownS_form hO6 with ⟨h, _⟩ | ⟨g, c, h⟩
      · exact ⟨_, _, _, h⟩
      · exact ⟨_, _, _, h⟩
    clear hO6 hnd hmem hb6 h16 hDi h15
    go_wp2_with fail
    obtain ⟨Wf, hWf, k1, k2, k3⟩ := duo h16'.out.2 (.string (canN X)) (.slice v6a v6n v6c)
    rw [hWf]
    have hl := ld_desc Wf w.heap.size _ k1 rfl
    refine bodyPost_ret (results_cell_tmp2 rfl _ _ _ _ _ rfl hl) rfl ⟨Or.inl ⟨ok'.out, _, L, rfl, ?_, hO6'.out.2⟩, k3 _ _ (Nat.le_refl _) h16'.out.1⟩
    refine ownS_base (ownS_of hO6'.out.1 (fun g hg => k2 g ?_)) (Nat.le_of_lt hlt.out)
    have := (ownS_lt hO6'.out.1 hg).1
    have := hlt.out
    omega
  · have h12 : Hid (Below w.heap.size w W2 ∧ W2.heap[w.heap.size]? = some (.cells #[.string ⟨#[]⟩, .slice none 0 0] 92 (0, 0))) := ⟨hH.out.1.trans (o2.out.mono hH.out.1.size), (o2.out.block _ (Array.getElem?_eq_some_iff.1 hH.out.2).1).trans hH.out.2⟩
    have ok' : Hid (D.2.2 = false) := ok
    obtain ⟨r0, f0⟩ := row_cell h12.out.2 (j := 0) (by simp)
    obtain ⟨r1, f1⟩ := row_cell h12.out.2 (j := 1) (by simp)
    simp only [List.getElem_toArray, List.getElem_cons_zero, List.getElem_cons_succ] at r0 r1
    clear ok o1 o2 hH
    go_wp2_with fail
    obtain ⟨Wf, hWf, k1, k2, k3⟩ := duo h12.out.2 (.string ⟨#[]⟩) (.slice none 0 0)
    rw [hWf]
    have hl := ld_desc Wf w.heap.size _ k1 rfl
    refine bodyPost_ret (results_cell_tmp2 rfl _ _ _ _ _ rfl hl) rfl ⟨Or.inr ⟨ok'.out, rfl⟩, k3 _ _ (Nat.le_refl _) h12.out.1⟩
end Go.Proofs.YtoomoicjoockjaaGreatDoor
