import Derived.Test.YtndbbfbihheagaaDoorAtRefRow
import Derived.Deep.AppendLies
import Derived.Deep.RegionLaw
namespace Go.Proofs.YtndbbfbihheagaaDoor
open Go.RowKit

theorem Nams.lt {W : World} {b : Nat} (h : Nams W b) : b < W.heap.size := (Array.getElem?_eq_some_iff.1 h).1
theorem Nams.below {W W' : World} {b : Nat} (h : Nams W b) (hb : Below W.heap.size W W') : Nams W' b := (hb.block b h.lt).trans h
theorem info_strR : (Tryd.prog.info? 9).map (fun i => (i.zero, i.size, i.bytes)) = some (some (.string ⟨#[]⟩), 1, 16) := by kernel_rfl
/-- One text appended to no list, at a step of a region that draws its order. -/
theorem step_first (w : World) {ops : Array Oper} {o : Oper} {a : Act} {K : Act → World → Prop} {Q : Exit → Act → World → Prop} {E : Prop} (hgd : o.guard = none) (s x : Operand)
    (ho : o.op = .call { callee := .builtin .append, args := #[s, x], argTypes := #[28, 28] }) (m : ByteArray) (g : Nat)
    (hs : a.eval s = .slice none 0 0) (hx : a.eval x = .slice (some ⟨g, 0, none⟩) 1 1) (hg : w.heap[g]? = some (.cells #[.string m] 9 (0, 0))) (H : Nat) (hH : w.heap.size = H)
    (h : ∀ cap w', w'.cell? ⟨H, 0, none⟩ = some (.string m) → H < w'.heap.size → Below w.heap.size w w' → K (a.put o.dst (.slice (some ⟨H, 0, none⟩) 1 cap)) w') :
    if Region.wanted o (yielded ops a.tmps) = true then Oper.wp Tryd.prog o a w K Q else E := by
  have hnil : w.ownsRow w.heap.size 9 1 (.slice none 0 0) 0 [] := ⟨rfl, Or.inl ⟨rfl, rfl⟩⟩
  obtain ⟨i0, hi, hz0, hz1, hz2⟩ := info_parts info_strR
  refine step_append_lies w hgd s x 28 ho w.heap.size 9 i0 _ 1 16 Tryd.underlying28 hi hz0 hz1 hz2 rfl (by decide) (.slice none 0 0) 0 [] hs hnil ⟨g, 0, none⟩ 1 1 [.string m] hx rfl (World.news_of_block hg) (by intro u hu; simp at hu; subst hu; rfl) (by decide) (by unfold maxLen; omega) (by omega) (Nat.le_refl _) H hH ?_
  intro g' cap w' h1 h2 h3 h4
  have hg' : g' = H := by
    rcases h3 with h3 | h3
    · exact absurd h3 (by simp [Value.ownBlock])
    · exact h3
  subst hg'
  have hc := World.ownsRow.cellAt h1 0 (by omega)
  refine h cap w' hc h4 ?_
  refine (Below.refl _ _).grown h2 (Nat.le_refl _) ?_
  intro k hk
  exact absurd hk (by simp [Value.ownBlock])

/-- A row of the reference's under way: its own block T, the result's block R, the names' block. -/
structure MidR (w : World) (i : Fin 62) (T R N : Nat) (al : Value) (r2 sp : ByteArray) (W : World) : Prop where
  row : W.heap[T]? = some (.cells #[.string (rowL i).1, al, .string r2, .string sp, .int .i64 0, .int .i64 0] 32 (0, 0))
  res : W.heap[R]? = some (.cells #[.string ⟨#[]⟩, .slice none 0 0, .string ⟨#[]⟩, .string ⟨#[]⟩, .int .i64 0, .int .i64 0] 32 (0, 0))
  nam : Nams W N
  bel : Below w.heap.size w W
  als : ((rowL i).2.1.toList = [] ∧ al = .slice none 0 0) ∨ (¬ (rowL i).2.1.toList = [] ∧ ∃ g c, R < g ∧ g ≠ T ∧ al = .slice (some ⟨g, 0, none⟩) 1 c ∧ W.cell? ⟨g, 0, none⟩ = some (.string (rowL i).2.1))

theorem midR_first {w W4 w' : World} {i : Fin 62} {N cap : Nat} (hT : W4.heap[w.heap.size + 1]? = some (.cells #[.string (rowL i).1, .slice none 0 0, .string ⟨#[]⟩, .string ⟨#[]⟩, .int .i64 0, .int .i64 0] 32 (0, 0)))
    (hR : W4.heap[w.heap.size]? = some (.cells #[.string ⟨#[]⟩, .slice none 0 0, .string ⟨#[]⟩, .string ⟨#[]⟩, .int .i64 0, .int .i64 0] 32 (0, 0))) (hN : Nams W4 N) (hB : Below w.heap.size w W4) (hne : N ≠ w.heap.size + 1)
    (k1 : w.heap.size + 1 < W4.heap.size) (he : ¬ (rowL i).2.1.toList = []) (hb : Below W4.heap.size W4 w') (hc : w'.cell? ⟨W4.heap.size + 1, 0, none⟩ = some (.string (rowL i).2.1)) :
    MidR w i (w.heap.size + 1) w.heap.size N (.slice (some ⟨W4.heap.size + 1, 0, none⟩) 1 cap) ⟨#[]⟩ ⟨#[]⟩ (w'.setCell ⟨w.heap.size + 1, 1, none⟩ (.slice (some ⟨W4.heap.size + 1, 0, none⟩) 1 cap)) := by
  refine ⟨?_, ?_, ?_, ?_, Or.inr ⟨he, W4.heap.size + 1, cap, by omega, by omega, rfl, ?_⟩⟩
  · exact Go.heap_setCell_same _ _ _ _ _ _ ((hb.block _ k1).trans hT)
  · rw [Below.heap_setCell _ _ _ _ (by show w.heap.size ≠ w.heap.size + 1; omega)]
    exact (hb.block _ (by omega)).trans hR
  · unfold Nams
    rw [Below.heap_setCell _ _ _ _ (by exact hne)]
    exact hN.below hb
  · refine Below.setCell (hB.trans (hb.mono hB.size)) ?_ _
    show w.heap.size ≤ w.heap.size + 1; omega
  · rw [World.cell?_setCell_other _ _ _ _ (by intro hh; injection hh with hh; omega)]
    exact hc

theorem midR_set {w W W' : World} {i : Fin 62} {N j : Nat} {al : Value} {r2 sp r2' sp' : ByteArray} (u : Value) (h : MidR w i (w.heap.size + 1) w.heap.size N al r2 sp W) (hne : N ≠ w.heap.size + 1)
    (hW : W.setCell ⟨w.heap.size + 1, j, none⟩ u = W') (hr : W'.heap[w.heap.size + 1]? = some (.cells #[.string (rowL i).1, al, .string r2', .string sp', .int .i64 0, .int .i64 0] 32 (0, 0))) : MidR w i (w.heap.size + 1) w.heap.size N al r2' sp' W' := by
  subst hW
  obtain ⟨m1, m2, m3, m4, m5⟩ := h
  refine ⟨hr, ?_, ?_, ?_, ?_⟩
  · rw [Below.heap_setCell _ _ _ _ (by show w.heap.size ≠ w.heap.size + 1; omega)]; exact m2
  · unfold Nams; rw [Below.heap_setCell _ _ _ _ (by exact hne)]; exact m3
  · refine Below.setCell m4 ?_ _
    show w.heap.size ≤ w.heap.size + 1; omega
  · rcases m5 with m5 | ⟨m6, g, c, q1, q2, q3, q4⟩
    · exact Or.inl m5
    · refine Or.inr ⟨m6, g, c, q1, q2, q3, ?_⟩
      rw [World.cell?_setCell_other _ _ _ _ (by intro hh; injection hh with hh; exact q2 hh.symm)]
      exact q4

set_option maxRecDepth 100000 in
set_option maxHeartbeats 1000000 in
theorem refRowTold_any (i : Fin 62) (w : World) (ht : NumTab w) :
    Calls Tryd.prog 8 #[.int .i64 (i.1 : Int)] w fun e w' => ∃ v, e = .returned v ∧ RowIs w' w.heap.size i v ∧ Below w.heap.size w w' := by
  obtain ⟨Wa, hWa⟩ : ∃ Wa, (w.alloc (.cells #[.string ⟨#[]⟩, .slice none 0 0, .string ⟨#[]⟩, .string ⟨#[]⟩, .int .i64 0, .int .i64 0] 32)).alloc (.cells #[.string ⟨#[]⟩, .slice none 0 0, .string ⟨#[]⟩, .string ⟨#[]⟩, .int .i64 0, .int .i64 0] 32) = Wa := ⟨_, rfl⟩
  have hBa : Hid (Below w.heap.size w Wa) := by unfold Hid; rw [← hWa]; exact ((Below.refl _ _).alloc (Nat.le_refl _) _).alloc (by simp) _
  have hTa : Hid (Wa.heap[w.heap.size + 1]? = some (.cells #[.string ⟨#[]⟩, .slice none 0 0, .string ⟨#[]⟩, .string ⟨#[]⟩, .int .i64 0, .int .i64 0] 32 (0, 0))) := by
    unfold Hid; rw [← hWa]
    have h := heap_alloc_last (w.alloc (.cells #[.string ⟨#[]⟩, .slice none 0 0, .string ⟨#[]⟩, .string ⟨#[]⟩, .int .i64 0, .int .i64 0] 32)) (.cells #[.string ⟨#[]⟩, .slice none 0 0, .string ⟨#[]⟩, .string ⟨#[]⟩, .int .i64 0, .int .i64 0] 32)
    simpa using h
  have hRa : Hid (Wa.heap[w.heap.size]? = some (.cells #[.string ⟨#[]⟩, .slice none 0 0, .string ⟨#[]⟩, .string ⟨#[]⟩, .int .i64 0, .int .i64 0] 32 (0, 0))) := by
    unfold Hid; rw [← hWa, Below.heap_alloc _ _ _ (by simp)]; exact heap_alloc_last w _
  have hsz : Hid (Wa.heap.size = w.heap.size + 2) := by unfold Hid; rw [← hWa]; simp
  have hN := names_q Wa
  go_enter Tryd.func8, Tryd.ntmps8
  go_wp2_with fail
  refine hN.mono ?_
  rintro e W2 ⟨cs, rfl, hcs, hcz, hco, hb2⟩
  have st := st_nams W2 cs hcz hco
  obtain ⟨W3, hW3⟩ : ∃ W3, W2.alloc (.cells cs 48) = W3 := ⟨_, rfl⟩
  rw [hW3] at st
  have hb3 : Below Wa.heap.size Wa W3 := by rw [← hW3]; exact hb2.alloc hb2.size _
  have hn3 : Nams W3 W2.heap.size := by unfold Nams; rw [hcs.out, ← hW3]; exact heap_alloc_last W2 _
  have hB3 : Hid (Below w.heap.size w W3) := hBa.out.trans (hb3.mono hBa.out.size)
  have hT3 : W3.heap[w.heap.size + 1]? = some (.cells #[.string ⟨#[]⟩, .slice none 0 0, .string ⟨#[]⟩, .string ⟨#[]⟩, .int .i64 0, .int .i64 0] 32 (0, 0)) := (hb3.block _ (Array.getElem?_eq_some_iff.1 hTa.out).1).trans hTa.out
  have hR3 : Hid (W3.heap[w.heap.size]? = some (.cells #[.string ⟨#[]⟩, .slice none 0 0, .string ⟨#[]⟩, .string ⟨#[]⟩, .int .i64 0, .int .i64 0] 32 (0, 0))) := (hb3.block _ (Array.getElem?_eq_some_iff.1 hRa.out).1).trans hRa.out
  have hNb : w.heap.size + 2 ≤ W2.heap.size := by have := hb2.size; have := hsz.out; omega
  have hNl : Hid (w.heap.size + 2 ≤ W2.heap.size) := hNb
  obtain ⟨c0, c1, c2⟩ := hn3.cells i
  have hi := i.2
  have i0 : (0 : Int) ≤ (i.1 : Int) := Int.natCast_nonneg _
  have i1 : (i.1 : Int) < 62 := by omega
  obtain ⟨t0, t0f⟩ := row_cell hT3 (j := 0) (by simp)
  simp only [List.getElem_toArray, List.getElem_cons_zero] at t0
  have hx : ¬ w.heap.size + 1 = W2.heap.size := by omega
  have hx' : ¬ W2.heap.size = w.heap.size + 1 := by omega
  have hT3' : Hid (W3.heap[w.heap.size + 1]? = some (.cells #[.string ⟨#[]⟩, .slice none 0 0, .string ⟨#[]⟩, .string ⟨#[]⟩, .int .i64 0, .int .i64 0] 32 (0, 0))) := hT3
  have hn3' : Hid (Nams W3 W2.heap.size) := hn3
  have hht : Hid (NumTab w) := ht
  clear hN hb2 hWa hco hW3 hT3 hn3 hTa hRa hBa hsz hb3 ht hNb hcs
  go_upto_if 15 with fail
  obtain ⟨W4, hW4⟩ : ∃ W4, W3.setCell ⟨w.heap.size + 1, 0, none⟩ (.string (rowL i).1) = W4 := ⟨_, rfl⟩
  rw [hW4]
  have hT4 : Hid (W4.heap[w.heap.size + 1]? = some (.cells #[.string (rowL i).1, .slice none 0 0, .string ⟨#[]⟩, .string ⟨#[]⟩, .int .i64 0, .int .i64 0] 32 (0, 0))) := by
    unfold Hid; rw [← hW4]; exact Go.heap_setCell_same _ _ _ _ _ _ hT3'.out
  have hR4 : Hid (W4.heap[w.heap.size]? = some (.cells #[.string ⟨#[]⟩, .slice none 0 0, .string ⟨#[]⟩, .string ⟨#[]⟩, .int .i64 0, .int .i64 0] 32 (0, 0))) := by
    unfold Hid; rw [← hW4, Below.heap_setCell _ _ _ _ (by show w.heap.size ≠ w.heap.size + 1; omega)]; exact hR3.out
  have hn4 : Hid (Nams W4 W2.heap.size) := by
    unfold Hid Nams; rw [← hW4, Below.heap_setCell _ _ _ _ (by show W2.heap.size ≠ w.heap.size + 1; exact hx')]; exact hn3'.out
  have hB4 : Hid (Below w.heap.size w W4) := by
    unfold Hid; rw [← hW4]; exact Below.setCell hB3.out (by show w.heap.size ≤ w.heap.size + 1; omega) _
  have hz4 : Hid (W2.heap.size < W4.heap.size) := hn4.out.lt
  clear c0 c1 c2 t0 t0f st hcz hW4 hT3' hR3 hn3' hB3
  obtain ⟨_, c1, _⟩ := hn4.out.cells i
  obtain ⟨t1, t1f⟩ := row_cell hT4.out (j := 1) (by simp)
  simp only [List.getElem_toArray, List.getElem_cons_zero, List.getElem_cons_succ] at t1
  have k1 : w.heap.size + 1 < W4.heap.size := by have := hz4.out; have := hNl.out; omega
  have k2 : W2.heap.size < W4.heap.size := hz4.out
  go_cut [] (fun wx => ∃ al, MidR w i (w.heap.size + 1) w.heap.size W2.heap.size al ⟨#[]⟩ ⟨#[]⟩ wx)
  case first =>
    by_cases he : (rowL i).2.1.toList = []
    · have hb0 : (rowL i).2.1.toList.isEmpty = true := by rw [he]; rfl
      rw [hb0]
      go_wp2_with fail
      go_meet
      case rel => exact ⟨_, hT4.out, hR4.out, hn4.out, hB4.out, Or.inl ⟨he, rfl⟩⟩
    · have hb0 : (rowL i).2.1.toList.isEmpty = false := by simpa using he
      rw [hb0]
      go_upto_region 5 with fail
      go_region_law (refine step_first _ rfl (.tmp 17) (.tmp 22) rfl (rowL i).2.1 W4.heap.size (by simp [Act.eval]) (by simp [Act.eval]) (heap_alloc_last W4 _) (W4.heap.size + 1) (by simp) ?_;
                     intro cap w' hc hz hb;
                     have hb' : Below W4.heap.size W4 w' := (((Below.refl _ _).alloc (Nat.le_refl _) _).drew).trans (hb.mono (by simp));
                     have t1' : w'.cell? ⟨w.heap.size + 1, 1, none⟩ = some (.slice none 0 0) := by rw [hb'.cell (by show w.heap.size + 1 < W4.heap.size; exact k1)]; exact t1;
                     have t1g : w'.frozen? ⟨w.heap.size + 1, 1, none⟩ = false := (row_cell ((hb'.block _ k1).trans hT4.out) (j := 1) (by simp)).2;
                     have hmid : Hid (MidR w i (w.heap.size + 1) w.heap.size W2.heap.size (.slice (some ⟨W4.heap.size + 1, 0, none⟩) 1 cap) ⟨#[]⟩ ⟨#[]⟩ (w'.setCell ⟨w.heap.size + 1, 1, none⟩ (.slice (some ⟨W4.heap.size + 1, 0, none⟩) 1 cap))) := midR_first hT4.out hR4.out hn4.out hB4.out (by omega) k1 he hb' hc)
      all_goals (go_wp2_with fail; go_meet; case rel => exact ⟨_, hmid.out⟩)
  case rest =>
    obtain ⟨al, hmd⟩ := hcut
    have htc := hht.out.below hmd.bel
    have s0 : wc.cell? ⟨0, i.1 * 3, none⟩ = some (.int .i64 ((KND.getD i.1 []).getD 0 0)) := htc.knd i.1 0 hi (by omega)
    obtain ⟨kk, hkk⟩ : ∃ kk, (KND.getD i.1 []).getD 0 0 = kk := ⟨_, rfl⟩
    rw [hkk] at s0
    have hmd' : Hid (MidR w i (w.heap.size + 1) w.heap.size W2.heap.size al ⟨#[]⟩ ⟨#[]⟩ wc) := hmd
    obtain ⟨t2c, t2f⟩ := row_cell hmd.row (j := 2) (by simp)
    simp only [List.getElem_toArray, List.getElem_cons_zero, List.getElem_cons_succ] at t2c
    obtain ⟨_, _, b2⟩ := hmd.nam.cells i
    have kl : 0 < w.heap.size := World.block_lt_of_cell? w _ (hht.out.knd 0 0 (by omega) (by omega))
    have kg : ¬ w.heap.size + 1 = 0 := by omega
    have hkk' : Hid ((KND.getD i.1 []).getD 0 0 = kk) := hkk
    clear hmd htc hB4 t1 t1f hT4 hR4 hn4 c1 k1 k2 hkk
    go_upto_if 34 with fail
    obtain ⟨W5, hW5⟩ : ∃ W5, wc.setCell ⟨w.heap.size + 1, 2, none⟩ (.string (rowL i).2.2) = W5 := ⟨_, rfl⟩
    rw [hW5]
    have hx2 : Hid (W2.heap.size ≠ w.heap.size + 1) := hx'
    have hm5 : Hid (MidR w i (w.heap.size + 1) w.heap.size W2.heap.size al (rowL i).2.2 ⟨#[]⟩ W5) :=
      midR_set (.string (rowL i).2.2) hmd'.out hx2.out hW5 (by rw [← hW5]; exact Go.heap_setCell_same _ _ _ _ _ _ hmd'.out.row)
    clear hW5 hmd' t2c t2f b2 s0
    go_cut [] (fun wx => MidR w i (w.heap.size + 1) w.heap.size W2.heap.size al (rowL i).2.2 (supN i) wx)
    case first =>
      have hnum := (num_at i).2.2.1
      rw [hkk'.out] at hnum
      rw [supI_eq] at hnum
      by_cases he : supI i = 0
      · have hd : decide (0 ≤ kk) = false := by rw [hnum, he]; rfl
        have hsp' : Hid (supN i = ⟨#[]⟩) := by unfold Hid supN; rw [if_pos he]
        rw [hd]
        clear hnum hd he
        go_wp2_with fail
        go_meet
        case rel => rw [hsp'.out]; exact hm5.out
      · have hnum' : kk = (supI i : Int) := by rw [hnum, if_neg (by omega)]
        have hd : decide (0 ≤ kk) = true := by rw [hnum', decide_eq_true_eq]; exact Int.natCast_nonneg _
        have hsp' : Hid (supN i = (rowL ⟨supI i, supI_lt i⟩).1) := by unfold Hid supN; rw [if_neg he]
        have s0 : W5.cell? ⟨0, i.1 * 3, none⟩ = some (.int .i64 ((KND.getD i.1 []).getD 0 0)) := (hht.out.below hm5.out.bel).knd i.1 0 hi (by omega)
        rw [hkk'.out, hnum'] at s0
        obtain ⟨b0, _, _⟩ := hm5.out.nam.cells ⟨supI i, supI_lt i⟩
        have k0 : (0 : Int) ≤ (supI i : Int) := Int.natCast_nonneg _
        have k1 : (supI i : Int) < 62 := by have := supI_lt i; omega
        obtain ⟨t3c, t3f⟩ := row_cell hm5.out.row (j := 3) (by simp)
        simp only [List.getElem_toArray, List.getElem_cons_zero, List.getElem_cons_succ] at t3c
        simp only at b0
        rw [hd]
        clear hnum hnum' hd he
        go_wp2_with fail
        go_meet
        case rel =>
          rw [hsp'.out]
          exact midR_set _ hm5.out hx2.out rfl (Go.heap_setCell_same _ _ _ _ _ _ hm5.out.row)
    case rest =>
      have htc := hht.out.below hcut.bel
      have s1 := htc.knd i.1 1 hi (by omega)
      have s2 := htc.knd i.1 2 hi (by omega)
      rw [(num_at i).2.2.2.1] at s1
      rw [(num_at i).2.2.2.2] at s2
      obtain ⟨z1, hz1⟩ : ∃ z, SYN.getD i.1 0 = z := ⟨_, rfl⟩
      obtain ⟨z2, hz2⟩ : ∃ z, USG.getD i.1 0 = z := ⟨_, rfl⟩
      rw [hz1] at s1
      rw [hz2] at s2
      have hmc : Hid (MidR w i (w.heap.size + 1) w.heap.size W2.heap.size al (rowL i).2.2 (supN i) wc) := hcut
      obtain ⟨t4c, t4f⟩ := row_cell hcut.row (j := 4) (by simp)
      obtain ⟨t5c, t5f⟩ := row_cell hcut.row (j := 5) (by simp)
      simp only [List.getElem_toArray, List.getElem_cons_zero, List.getElem_cons_succ] at t4c t5c
      have hz1' : Hid (SYN.getD i.1 0 = z1) := hz1
      have hz2' : Hid (USG.getD i.1 0 = z2) := hz2
      clear hcut htc hm5 hz1 hz2 hkk'
      go_upto_region 11 with fail
      obtain ⟨W6, hW6⟩ : ∃ W6, (wc.setCell ⟨w.heap.size + 1, 4, none⟩ (.int .i64 z1)).setCell ⟨w.heap.size + 1, 5, none⟩ (.int .i64 z2) = W6 := ⟨_, rfl⟩
      rw [hW6]
      obtain ⟨m1, m2, m3, h3, h4⟩ := hmc.out
      have h1 : W6.heap[w.heap.size + 1]? = some (.cells #[.string (rowL i).1, al, .string (rowL i).2.2, .string (supN i), .int .i64 z1, .int .i64 z2] 32 (0, 0)) := by
        rw [← hW6]; exact Go.heap_setCell_same _ _ _ _ _ _ (Go.heap_setCell_same _ _ _ _ _ _ m1)
      have hoth6 : Hid (∀ y, y ≠ w.heap.size + 1 → W6.heap[y]? = wc.heap[y]?) := fun y hy => by
        rw [← hW6, Below.heap_setCell _ _ _ _ hy, Below.heap_setCell _ _ _ _ hy]
      have h2 : W6.heap[w.heap.size]? = some (.cells #[.string ⟨#[]⟩, .slice none 0 0, .string ⟨#[]⟩, .string ⟨#[]⟩, .int .i64 0, .int .i64 0] 32 (0, 0)) := (hoth6.out _ (by omega)).trans m2
      have hB6 : Hid (Below w.heap.size w W6) := by
        unfold Hid; rw [← hW6]
        refine Below.setCell (Below.setCell h3 ?_ _) ?_ _ <;> exact Nat.le_succ _
      obtain ⟨p0, _⟩ := row_cell h1 (j := 0) (by simp)
      obtain ⟨r0, f0⟩ := row_cell h2 (j := 0) (by simp)
      obtain ⟨p1, _⟩ := row_cell h1 (j := 1) (by simp)
      obtain ⟨r1, f1⟩ := row_cell h2 (j := 1) (by simp)
      obtain ⟨p2, _⟩ := row_cell h1 (j := 2) (by simp)
      obtain ⟨r2, f2⟩ := row_cell h2 (j := 2) (by simp)
      obtain ⟨p3, _⟩ := row_cell h1 (j := 3) (by simp)
      obtain ⟨r3, f3⟩ := row_cell h2 (j := 3) (by simp)
      obtain ⟨p4, _⟩ := row_cell h1 (j := 4) (by simp)
      obtain ⟨r4, f4⟩ := row_cell h2 (j := 4) (by simp)
      obtain ⟨p5, _⟩ := row_cell h1 (j := 5) (by simp)
      obtain ⟨r5, f5⟩ := row_cell h2 (j := 5) (by simp)
      simp only [List.getElem_toArray, List.getElem_cons_zero, List.getElem_cons_succ] at p0 p1 p2 p3 p4 p5 r0 r1 r2 r3 r4 r5
      obtain ⟨al1, al2, al3, rfl⟩ : ∃ a1 a2 a3, al = .slice a1 a2 a3 := by
        rcases h4 with ⟨_, h⟩ | ⟨_, g, c, _, _, h, _⟩
        · exact ⟨_, _, _, h⟩
        · exact ⟨_, _, _, h⟩
      have hx3 : ¬ w.heap.size + 1 = w.heap.size := by omega
      have h4' := (show Hid _ from h4)
      have h2' : Hid (W6.heap[w.heap.size]? = some (.cells #[.string ⟨#[]⟩, .slice none 0 0, .string ⟨#[]⟩, .string ⟨#[]⟩, .int .i64 0, .int .i64 0] 32 (0, 0))) := h2
      clear h1 h2 m1 m2 m3 h3 h4 hW6 t4c t4f t5c t5f s1 s2 hmc
      go_wp2_with fail
      obtain ⟨Wf, hWf⟩ : ∃ Wf, ((((((W6.setCell ⟨w.heap.size, 0, none⟩ (.string (rowL i).1)).setCell ⟨w.heap.size, 1, none⟩ (.slice al1 al2 al3)).setCell ⟨w.heap.size, 2, none⟩ (.string (rowL i).2.2)).setCell ⟨w.heap.size, 3, none⟩ (.string (supN i))).setCell ⟨w.heap.size, 4, none⟩ (.int .i64 z1)).setCell ⟨w.heap.size, 5, none⟩ (.int .i64 z2)) = Wf := ⟨_, rfl⟩
      rw [hWf]
      have hf : Wf.heap[w.heap.size]? = some (.cells #[.string (rowL i).1, .slice al1 al2 al3, .string (rowL i).2.2, .string (supN i), .int .i64 z1, .int .i64 z2] 32 (0, 0)) := by
        rw [← hWf]
        exact Go.heap_setCell_same _ _ _ _ _ _ (Go.heap_setCell_same _ _ _ _ _ _ (Go.heap_setCell_same _ _ _ _ _ _ (Go.heap_setCell_same _ _ _ _ _ _ (Go.heap_setCell_same _ _ _ _ _ _ (Go.heap_setCell_same _ _ _ _ _ _ h2'.out)))))
      have hoth : ∀ y, y ≠ w.heap.size → Wf.heap[y]? = W6.heap[y]? := fun y hy => by
        rw [← hWf, Below.heap_setCell _ _ _ _ hy, Below.heap_setCell _ _ _ _ hy, Below.heap_setCell _ _ _ _ hy, Below.heap_setCell _ _ _ _ hy, Below.heap_setCell _ _ _ _ hy, Below.heap_setCell _ _ _ _ hy]
      have hBf : Below w.heap.size w Wf := by
        rw [← hWf]
        refine Below.setCell (Below.setCell (Below.setCell (Below.setCell (Below.setCell (Below.setCell hB6.out ?_ _) ?_ _) ?_ _) ?_ _) ?_ _) ?_ _ <;> exact Nat.le_refl _
      refine bodyPost_ret (v := .agg #[.string (rowL i).1, .slice al1 al2 al3, .string (rowL i).2.2, .string (supN i), .int .i64 z1, .int .i64 z2]) ?_ rfl ⟨_, rfl, ?_, hBf⟩
      · exact results_cell_row rfl _ _ w.heap.size 32 _ (0, 0) _ rfl hf Tryd.underlying32 rfl (by kernel_rfl)
      · refine ⟨_, by rw [hz1'.out, hz2'.out], ?_⟩
        rcases h4'.out with h4 | ⟨m6, g, c, q1, q2, q3, q4⟩
        · exact Or.inl h4
        · refine Or.inr ⟨m6, g, c, Nat.le_of_lt q1, q3, ?_⟩
          rw [World.cell?_of_block (w := wc) (a := ⟨g, 0, none⟩) ((hoth g (by omega)).trans (hoth6.out g q2))]
          exact q4
end Go.Proofs.YtndbbfbihheagaaDoor
