import Derived.Test.YtohkmjaaigaemabMtRow
namespace Go.Proofs.Ytohkmjaaigaemab
open Go.RowKit
set_option linter.unusedVariables false

/-- The cells of a pattern, its list any value. -/
def PatV (W : World) (g : Nat) (i : ByteArray) (v : Value) (f : ByteArray) : Prop := W.heap[g]? = some (.cells #[.string i, v, .string f] 24 (0, 0))
theorem PatV.cells {W : World} {g : Nat} {i : ByteArray} {v : Value} {f : ByteArray} (h : PatV W g i v f) :
    (W.cell? ⟨g, 0, none⟩ = some (.string i) ∧ W.frozen? ⟨g, 0, none⟩ = false) ∧ (W.cell? ⟨g, 1, none⟩ = some v ∧ W.frozen? ⟨g, 1, none⟩ = false) ∧ (W.cell? ⟨g, 2, none⟩ = some (.string f) ∧ W.frozen? ⟨g, 2, none⟩ = false) :=
  ⟨row_cell h (j := 0) (by simp), row_cell h (j := 1) (by simp), row_cell h (j := 2) (by simp)⟩
theorem PatV.of_block {W W' : World} {g : Nat} {i : ByteArray} {v : Value} {f : ByteArray} (h : PatV W g i v f) (e : W'.heap[g]? = W.heap[g]?) : PatV W' g i v f := e.trans h
theorem PatV.set {W : World} {g : Nat} {i : ByteArray} {v : Value} {f : ByteArray} (h : PatV W g i v f) (u : Value) : PatV (W.setCell ⟨g, 1, none⟩ u) g i u f := Go.heap_setCell_same _ _ _ _ _ _ h
theorem PatV.lt {W : World} {g : Nat} {i : ByteArray} {v : Value} {f : ByteArray} (h : PatV W g i v f) : g < W.heap.size := (Array.getElem?_eq_some_iff.1 h).1
theorem PatV.whole {W : World} {g : Nat} {i i' : ByteArray} {v v' : Value} {f f' : ByteArray} (h : PatV W g i v f) :
    PatV (((W.setCell ⟨g, 0, none⟩ (.string i')).setCell ⟨g, 1, none⟩ v').setCell ⟨g, 2, none⟩ (.string f')) g i' v' f' :=
  Go.heap_setCell_same _ _ _ _ _ _ (Go.heap_setCell_same _ _ _ _ _ _ (Go.heap_setCell_same _ _ _ _ _ _ h))
theorem results_cell (fn : Func) (t : Tmp) (ty : TypeId) (h : fn.results = #[.cell t ty]) (tmps : Array Value) (P : Program) (w : World) (p : Addr) (x : Value) (hp : tmps.getD t undef = .pointer (some p)) (hl : (loadVar ty p).run P w = .ok x w) :
    (results fn tmps).run P w = .ok x w := by
  have hp' : tmps[t]?.getD undef = .pointer (some p) := by rw [← hp]; simp
  simp [results, h, hp', asAddr, hl]
theorem ld_pat {W : World} {g : Nat} {i : ByteArray} {v : Value} {f : ByteArray} (h : PatV W g i v f) : (loadVar 24 ⟨g, 0, none⟩).run Try.prog W = .ok (.agg #[.string i, v, .string f]) W :=
  run_loadVar_row W g 24 24 _ (0, 0) _ h Try.underlying24 rfl (by kernel_rfl)

set_option maxRecDepth 100000 in
set_option maxHeartbeats 4000000 in
theorem copied_any (i f : ByteArray) (l : List (List UInt8)) (a : Option Addr) (c : Nat) (w : World) (hr : Row w a l) (hl : l.length ≤ 4194304) :
    Calls Try.prog 4 #[.agg #[.string i, .slice a l.length c, .string f]] w fun e w' => (∃ v, e = .returned (.agg #[.string i, v, .string f]) ∧ OwnS w' w.heap.size v l) ∧ Below w.heap.size w w' := by
  obtain ⟨Wa, hWa⟩ : ∃ W, w.alloc (.cells #[.string i, .slice a l.length c, .string f] 24) = W := ⟨_, rfl⟩
  obtain ⟨Wb, hWb⟩ : ∃ W, Wa.alloc (.cells #[.string ⟨#[]⟩, .slice none 0 0, .string ⟨#[]⟩] 24) = W := ⟨_, rfl⟩
  obtain ⟨Wc, hWc⟩ : ∃ W, Wb.alloc (.cells #[.string i, .slice none 0 0, .string f] 24) = W := ⟨_, rfl⟩
  have na : Wa.heap.size = w.heap.size + 1 := by rw [← hWa]; simp
  have nb : Wb.heap.size = w.heap.size + 2 := by rw [← hWb, World.size_alloc, na]
  have nc : Wc.heap.size = w.heap.size + 3 := by rw [← hWc, World.size_alloc, nb]
  have pa : PatV Wa w.heap.size i (.slice a l.length c) f := by rw [← hWa]; exact heap_alloc_last w _
  have pb1 : PatV Wb w.heap.size i (.slice a l.length c) f := by rw [← hWb]; exact pa.of_block (Below.heap_alloc _ _ _ pa.lt)
  have pb2 : PatV Wb (w.heap.size + 1) ⟨#[]⟩ (.slice none 0 0) ⟨#[]⟩ := by rw [← hWb, ← na]; exact heap_alloc_last Wa _
  have pc1 : PatV Wc w.heap.size i (.slice a l.length c) f := by rw [← hWc]; exact pb1.of_block (Below.heap_alloc _ _ _ pb1.lt)
  have pc2 : PatV Wc (w.heap.size + 1) ⟨#[]⟩ (.slice none 0 0) ⟨#[]⟩ := by rw [← hWc]; exact pb2.of_block (Below.heap_alloc _ _ _ pb2.lt)
  have pc3 : PatV Wc (w.heap.size + 2) i (.slice none 0 0) f := by rw [← hWc, ← nb]; exact heap_alloc_last Wb _
  have hBc : Below w.heap.size w Wc := by
    rw [← hWc, ← hWb, ← hWa]
    exact (((Below.refl _ _).alloc (Nat.le_refl _) _).alloc (by simp) _).alloc (by simp; omega) _
  have hI0 : Hid (PatV Wc w.heap.size i (.slice a l.length c) f ∧ PatV Wc (w.heap.size + 1) ⟨#[]⟩ (.slice none 0 0) ⟨#[]⟩ ∧ PatV Wc (w.heap.size + 2) i (.slice none 0 0) f ∧ OwnS Wc (w.heap.size + 3) (.slice none 0 0) [] ∧ Below w.heap.size w Wc) := ⟨pc1, pc2, pc3, ownS_nil _ _, hBc⟩
  have hr' : Hid (Row w a l) := hr
  obtain ⟨⟨c0, z0⟩, ⟨c1, z1⟩, ⟨c2, z2⟩⟩ := pb1.cells
  clear hr pa pb1 pb2 pc1 pc2 pc3 hBc
  go_enter Try.func4, Try.ntmps4
  go_wp2_with fail
  clear c0 z0 c1 z1 c2 z2 hWa hWb hWc na nb nc
  go_loopw [4] (fun iv wr => ∃ (k : Nat) (v : Value), k ≤ l.length ∧ iv = .int .i64 (k : Int) ∧ Hid (PatV wr w.heap.size i (.slice a l.length c) f ∧ PatV wr (w.heap.size + 1) ⟨#[]⟩ (.slice none 0 0) ⟨#[]⟩ ∧ PatV wr (w.heap.size + 2) i v f ∧ OwnS wr (w.heap.size + 3) v (l.take k) ∧ Below w.heap.size w wr)) (fun iv _ => l.length - (intOf iv).toNat)
  case atStart => exact ⟨0, .slice none 0 0, Nat.zero_le _, rfl, by rw [List.take_zero]; exact hI0⟩
  case round =>
    obtain ⟨k, v, hk, rfl, hI⟩ := hrel
    clear hI0
    obtain ⟨⟨c0, z0⟩, ⟨c1, z1⟩, ⟨c2, z2⟩⟩ := hI.out.1.cells
    obtain ⟨⟨d0, y0⟩, ⟨d1, y1⟩, ⟨d2, y2⟩⟩ := hI.out.2.2.1.cells
    by_cases hlt : k < l.length
    · obtain ⟨b, off, hab, hc⟩ := (hr'.out.below hI.out.2.2.2.2) k hlt
      have hbl : b < wr.heap.size := World.block_lt_of_cell? wr _ hc
      have hbw : b < w.heap.size := by
        obtain ⟨b', off', hab', hc'⟩ := hr'.out k hlt
        rw [hab] at hab'
        injection hab' with hab'
        injection hab' with h1 h2
        subst h1
        exact World.block_lt_of_cell? w _ hc'
      subst hab
      have k0 : (0 : Int) ≤ (k : Int) := Int.natCast_nonneg _
      have k1 : (k : Int) < (l.length : Int) := Int.ofNat_lt.2 hlt
      have hlk : Hid (l.take (k + 1) = l.take k ++ [l[k]]) := List.take_succ_eq_append_getElem hlt
      obtain ⟨ms, hms⟩ : ∃ ms, l.take k = ms := ⟨_, rfl⟩
      have hml : Hid (ms.length ≤ 4194304 ∧ ms.length = k) := by
        unfold Hid
        rw [← hms, List.length_take]
        omega
      obtain ⟨m, hm⟩ : ∃ m, l[k] = m := ⟨_, rfl⟩
      rw [hms, hm] at hlk
      rw [hm] at hc
      rw [hms] at hI
      obtain ⟨X, hX⟩ : ∃ X, S m = X := ⟨_, rfl⟩
      rw [hX] at hc
      have hX' : Hid (S m = X) := hX
      have hk' : Hid (k < l.length) := hlt
      clear hms hm hX hlt
      go_upto_region 5 with fail
      have hownW : OwnS wr.drew (w.heap.size + 3) v ms := World.ownsRow.drew hI.out.2.2.2.1
      have hP1 : PatV wr.drew w.heap.size i (.slice (some ⟨b, off, none⟩) l.length c) f := hI.out.1
      have hP2 : PatV wr.drew (w.heap.size + 1) ⟨#[]⟩ (.slice none 0 0) ⟨#[]⟩ := hI.out.2.1
      have hP3 : PatV wr.drew (w.heap.size + 2) i v f := hI.out.2.2.1
      have HBW : Below w.heap.size w wr.drew := hI.out.2.2.2.2.drew
      have hSW : wr.drew.cell? ⟨w.heap.size, 1, none⟩ = some (.slice (some ⟨b, off, none⟩) l.length c) ∧ wr.drew.cell? ⟨b, off + k, none⟩ = some (.string X) := ⟨c1, hc⟩
      have glW : wr.drew.cell? ⟨w.heap.size + 2, 1, none⟩ = some v := d1
      clear hI c0 c1 c2 z0 z1 z2 d0 d1 d2 y0 y1 y2 hc hbl
      refine wp_region_noPanic ?_
      refine wp_region_held_drew (S := fun W => W.cell? ⟨w.heap.size, 1, none⟩ = some (.slice (some ⟨b, off, none⟩) l.length c) ∧ W.cell? ⟨b, off + k, none⟩ = some (.string X)) (by kernel_rfl) hSW (fun _ => ?_)
      generalize wr.drew = W0 at *
      have nW := hP3.lt
      refine wpAnyH_take (i := 0) (v := ?va1) (by simp only [List.getElem?_toArray, List.getElem?_cons_zero]; exact rfl) (by kernel_rfl) (by kernel_rfl) (by kernel_rfl) (fun _ _ _ h => h) (Or.inl ⟨by rfl, ?ya1⟩) hSW ?ra1
      case ya1 =>
        intro w' hS
        obtain ⟨s0, s1⟩ := hS
        go_simp
        try with_reducible rfl
      case ra1 =>
      simp only [Act.put, List.setIfInBounds_toArray, List.set_cons_zero, List.set_cons_succ]
      refine wpAnyH_take (i := 2) (v := ?va2) (by simp only [List.getElem?_toArray, List.getElem?_cons_zero, List.getElem?_cons_succ]; exact rfl) (by kernel_rfl) (by kernel_rfl) (by kernel_rfl) (fun _ _ _ h => h) (Or.inl ⟨by rfl, ?ya2⟩) hSW ?ra2
      case ya2 =>
        intro w' hS
        obtain ⟨s0, s1⟩ := hS
        go_simp
        try with_reducible rfl
      case ra2 =>
      simp only [Act.put, List.setIfInBounds_toArray, List.set_cons_zero, List.set_cons_succ]
      refine wpAnyH_take (i := 3) (v := ?va3) (by simp only [List.getElem?_toArray, List.getElem?_cons_zero, List.getElem?_cons_succ]; exact rfl) (by kernel_rfl) (by kernel_rfl) (by kernel_rfl) (fun _ _ _ h => h) (Or.inl ⟨by rfl, ?ya3⟩) hSW ?ra3
      case ya3 =>
        intro w' hS
        obtain ⟨s0, s1⟩ := hS
        go_simp
        try with_reducible rfl
      case ra3 =>
      simp only [Act.put, List.setIfInBounds_toArray, List.set_cons_zero, List.set_cons_succ]
      refine wpAnyH_take (i := 4) (v := ?va4) (by simp only [List.getElem?_toArray, List.getElem?_cons_zero, List.getElem?_cons_succ]; exact rfl) (by kernel_rfl) (by kernel_rfl) (by kernel_rfl) (fun _ _ _ h => h) (Or.inl ⟨by rfl, ?ya4⟩) hSW ?ra4
      case ya4 =>
        intro w' hS
        obtain ⟨s0, s1⟩ := hS
        go_simp
        try with_reducible rfl
      case ra4 =>
      simp only [Act.put, List.setIfInBounds_toArray, List.set_cons_zero, List.set_cons_succ]
      refine wpAnyH_take (i := 5) (v := ?va5) (by simp only [List.getElem?_toArray, List.getElem?_cons_zero, List.getElem?_cons_succ]; exact rfl) (by kernel_rfl) (by kernel_rfl) (by kernel_rfl) (fun _ _ _ h => h) (Or.inl ⟨by rfl, ?ya5⟩) hSW ?ra5
      case ya5 =>
        intro w' hS
        obtain ⟨s0, s1⟩ := hS
        go_simp
        try with_reducible rfl
      case ra5 =>
      simp only [Act.put, List.setIfInBounds_toArray, List.set_cons_zero, List.set_cons_succ]
      refine wpAnyH_take (i := 6) (v := ?va6) (by simp only [List.getElem?_toArray, List.getElem?_cons_zero, List.getElem?_cons_succ]; exact rfl) (by kernel_rfl) (by kernel_rfl) (by kernel_rfl) (fun _ _ _ h => h) (Or.inl ⟨by rfl, ?ya6⟩) hSW ?ra6
      case ya6 =>
        intro w' hS
        obtain ⟨s0, s1⟩ := hS
        go_simp
        try with_reducible rfl
      case ra6 =>
      simp only [Act.put, List.setIfInBounds_toArray, List.set_cons_zero, List.set_cons_succ]
      refine wpAnyH_ready (rs := [1, 7]) (by kernel_rfl) (by simp) ?_
      refine AllReadyH.cons (by simp only [List.getElem?_toArray, List.getElem?_cons_zero, List.getElem?_cons_succ]; exact rfl) (fun K hK => ?_) (AllReadyH.cons (by simp only [List.getElem?_toArray, List.getElem?_cons_zero, List.getElem?_cons_succ]; exact rfl) (fun K hK => ?_) AllReadyH.nil)
      · go_simp
        refine hK.out _ _ hSW (fun _ => ?_)
        clear hK K
        refine wpAnyH_ready (rs := [7]) (by kernel_rfl) (by simp) ?_
        refine AllReadyH.cons (by simp only [List.getElem?_toArray, List.getElem?_cons_zero, List.getElem?_cons_succ]; exact rfl) (fun K hK => ?_) AllReadyH.nil
        go_simp
        have hSa : (W0.alloc (.cells #[.string X] 9)).cell? ⟨w.heap.size, 1, none⟩ = some (.slice (some ⟨b, off, none⟩) l.length c) ∧ (W0.alloc (.cells #[.string X] 9)).cell? ⟨b, off + k, none⟩ = some (.string X) := ⟨by rw [World.cell?_alloc_past _ _ _ (by show w.heap.size < _; omega)]; exact hSW.1, by rw [World.cell?_alloc_past _ _ _ (by show b < _; omega)]; exact hSW.2⟩
        have gla : (W0.alloc (.cells #[.string X] 9)).cell? ⟨w.heap.size + 2, 1, none⟩ = some v := by rw [World.cell?_alloc_past _ _ _ (by show w.heap.size + 2 < _; omega)]; exact glW
        refine hK.out _ _ hSa (fun _ => ?_)
        clear hK K
        refine wpAnyH_ready (rs := [8]) (by kernel_rfl) (by simp) ?_
        refine AllReadyH.cons (by simp only [List.getElem?_toArray, List.getElem?_cons_zero, List.getElem?_cons_succ]; exact rfl) (fun K hK => ?_) AllReadyH.nil
        refine step_str _ (by rfl) _ _ (by rfl) (w.heap.size + 3) _ ms m _ (by rfl) (by rfl) ?_ ?_ ?_ hml.out.1 ?_
        · exact World.ownsRow.alloc hownW _
        · rw [hX'.out]; exact heap_alloc_last _ _
        · simp; omega
        intro g2 cap2 w4 hown4 hgrow1 hb4
        have e4 : ∀ b, b < w.heap.size + 3 → w4.heap[b]? = W0.heap[b]? := fun b hb => by
          rw [hb4.block b hb, Below.heap_alloc _ _ _ (by omega)]
        have hS4 : w4.cell? ⟨w.heap.size, 1, none⟩ = some (.slice (some ⟨b, off, none⟩) l.length c) ∧ w4.cell? ⟨b, off + k, none⟩ = some (.string X) := ⟨by rw [World.cell?_of_block (w := W0) (e4 w.heap.size (by omega))]; exact hSW.1, by rw [World.cell?_of_block (w := W0) (e4 b (by omega))]; exact hSW.2⟩
        have hQ4 : PatV w4 (w.heap.size + 2) i v f := hP3.of_block (e4 _ (by omega))
        obtain ⟨⟨d0, y0⟩, ⟨d1, y1⟩, ⟨d2, y2⟩⟩ := hQ4.cells
        refine hK.out _ _ hS4 (fun _ => ?_)
        clear hK K
        refine wpAnyH_take (i := 9) (v := ?va7) (by simp only [List.getElem?_toArray, List.getElem?_cons_zero, List.getElem?_cons_succ]; exact rfl) (by kernel_rfl) (by kernel_rfl) (by kernel_rfl) (fun _ _ _ h => h) (Or.inl ⟨by rfl, ?ya7⟩) hS4 ?ra7
        case ya7 =>
          intro w' hS
          obtain ⟨s0, s1⟩ := hS
          go_simp
          try with_reducible rfl
        case ra7 =>
        simp only [Act.put, List.setIfInBounds_toArray, List.set_cons_zero, List.set_cons_succ]
        refine wpAnyH_ready (rs := [10]) (by kernel_rfl) (by simp) ?_
        refine AllReadyH.cons (by simp only [List.getElem?_toArray, List.getElem?_cons_zero, List.getElem?_cons_succ]; exact rfl) (fun K hK => ?_) AllReadyH.nil
        go_simp
        have hS5 : (w4.setCell ⟨w.heap.size + 2, 1, none⟩ (.slice (some ⟨g2, 0, none⟩) (ms.length + 1) cap2)).cell? ⟨w.heap.size, 1, none⟩ = some (.slice (some ⟨b, off, none⟩) l.length c) ∧ (w4.setCell ⟨w.heap.size + 2, 1, none⟩ (.slice (some ⟨g2, 0, none⟩) (ms.length + 1) cap2)).cell? ⟨b, off + k, none⟩ = some (.string X) := ⟨by rw [World.cell?_setCell_other _ _ _ _ (by intro hh; injection hh with h1 _ _; omega)]; exact hS4.1, by rw [World.cell?_setCell_other _ _ _ _ (by intro hh; injection hh with h1 _ _; omega)]; exact hS4.2⟩
        refine hK.out _ _ hS5 (fun _ => ?_)
        clear hK K
        refine wpAnyH_done (by kernel_rfl) ?_ _
        refine NoPanic.normal ?_
        have hfin : Hid (PatV (w4.setCell ⟨w.heap.size + 2, 1, none⟩ (.slice (some ⟨g2, 0, none⟩) (ms.length + 1) cap2)) w.heap.size i (.slice (some ⟨b, off, none⟩) l.length c) f ∧ PatV (w4.setCell ⟨w.heap.size + 2, 1, none⟩ (.slice (some ⟨g2, 0, none⟩) (ms.length + 1) cap2)) (w.heap.size + 1) ⟨#[]⟩ (.slice none 0 0) ⟨#[]⟩ ∧ PatV (w4.setCell ⟨w.heap.size + 2, 1, none⟩ (.slice (some ⟨g2, 0, none⟩) (ms.length + 1) cap2)) (w.heap.size + 2) i (.slice (some ⟨g2, 0, none⟩) (ms.length + 1) cap2) f ∧ OwnS (w4.setCell ⟨w.heap.size + 2, 1, none⟩ (.slice (some ⟨g2, 0, none⟩) (ms.length + 1) cap2)) (w.heap.size + 3) (.slice (some ⟨g2, 0, none⟩) (ms.length + 1) cap2) (ms ++ [m]) ∧ Below w.heap.size w (w4.setCell ⟨w.heap.size + 2, 1, none⟩ (.slice (some ⟨g2, 0, none⟩) (ms.length + 1) cap2))) := by
          refine ⟨(hP1.of_block (e4 _ (by omega))).of_block (Below.heap_setCell _ _ _ _ (by show w.heap.size ≠ w.heap.size + 2; omega)), (hP2.of_block (e4 _ (by omega))).of_block (Below.heap_setCell _ _ _ _ (by show w.heap.size + 1 ≠ w.heap.size + 2; omega)), hQ4.set _, ?_, ?_⟩
          · exact ownS_block hown4 (fun g hg _ => Below.heap_setCell _ _ _ _ (by show g ≠ w.heap.size + 2; omega))
          · have hx : Below w.heap.size w w4 := HBW.trans (((Below.refl _ _).alloc (by omega) _).trans (hb4.mono (by omega)))
            exact Below.setCell hx (by show w.heap.size ≤ w.heap.size + 2; omega) _
        clear hS5 hS4 hQ4 d0 d1 d2 y0 y1 y2 hown4 hgrow1 hb4 e4 hP1 hP2 hP3 HBW hSW glW hownW
        go_wp2_with fail
        go_roundw
        case rel => exact ⟨k + 1, (.slice (some ⟨g2, 0, none⟩) (ms.length + 1) cap2), hk'.out, by simp, by rw [hlk.out]; exact hfin⟩
        case measure => have := hk'.out; simp [intOf]; omega
      · go_simp
        have hSa : (W0.alloc (.cells #[.string X] 9)).cell? ⟨w.heap.size, 1, none⟩ = some (.slice (some ⟨b, off, none⟩) l.length c) ∧ (W0.alloc (.cells #[.string X] 9)).cell? ⟨b, off + k, none⟩ = some (.string X) := ⟨by rw [World.cell?_alloc_past _ _ _ (by show w.heap.size < _; omega)]; exact hSW.1, by rw [World.cell?_alloc_past _ _ _ (by show b < _; omega)]; exact hSW.2⟩
        have gla : (W0.alloc (.cells #[.string X] 9)).cell? ⟨w.heap.size + 2, 1, none⟩ = some v := by rw [World.cell?_alloc_past _ _ _ (by show w.heap.size + 2 < _; omega)]; exact glW
        refine hK.out _ _ hSa (fun _ => ?_)
        clear hK K
        refine wpAnyH_ready (rs := [1]) (by kernel_rfl) (by simp) ?_
        refine AllReadyH.cons (by simp only [List.getElem?_toArray, List.getElem?_cons_zero, List.getElem?_cons_succ]; exact rfl) (fun K hK => ?_) AllReadyH.nil
        go_simp
        refine hK.out _ _ hSa (fun _ => ?_)
        clear hK K
        refine wpAnyH_ready (rs := [8]) (by kernel_rfl) (by simp) ?_
        refine AllReadyH.cons (by simp only [List.getElem?_toArray, List.getElem?_cons_zero, List.getElem?_cons_succ]; exact rfl) (fun K hK => ?_) AllReadyH.nil
        refine step_str _ (by rfl) _ _ (by rfl) (w.heap.size + 3) _ ms m _ (by rfl) (by rfl) ?_ ?_ ?_ hml.out.1 ?_
        · exact World.ownsRow.alloc hownW _
        · rw [hX'.out]; exact heap_alloc_last _ _
        · simp; omega
        intro g2 cap2 w4 hown4 hgrow1 hb4
        have e4 : ∀ b, b < w.heap.size + 3 → w4.heap[b]? = W0.heap[b]? := fun b hb => by
          rw [hb4.block b hb, Below.heap_alloc _ _ _ (by omega)]
        have hS4 : w4.cell? ⟨w.heap.size, 1, none⟩ = some (.slice (some ⟨b, off, none⟩) l.length c) ∧ w4.cell? ⟨b, off + k, none⟩ = some (.string X) := ⟨by rw [World.cell?_of_block (w := W0) (e4 w.heap.size (by omega))]; exact hSW.1, by rw [World.cell?_of_block (w := W0) (e4 b (by omega))]; exact hSW.2⟩
        have hQ4 : PatV w4 (w.heap.size + 2) i v f := hP3.of_block (e4 _ (by omega))
        obtain ⟨⟨d0, y0⟩, ⟨d1, y1⟩, ⟨d2, y2⟩⟩ := hQ4.cells
        refine hK.out _ _ hS4 (fun _ => ?_)
        clear hK K
        refine wpAnyH_take (i := 9) (v := ?va8) (by simp only [List.getElem?_toArray, List.getElem?_cons_zero, List.getElem?_cons_succ]; exact rfl) (by kernel_rfl) (by kernel_rfl) (by kernel_rfl) (fun _ _ _ h => h) (Or.inl ⟨by rfl, ?ya8⟩) hS4 ?ra8
        case ya8 =>
          intro w' hS
          obtain ⟨s0, s1⟩ := hS
          go_simp
          try with_reducible rfl
        case ra8 =>
        simp only [Act.put, List.setIfInBounds_toArray, List.set_cons_zero, List.set_cons_succ]
        refine wpAnyH_ready (rs := [10]) (by kernel_rfl) (by simp) ?_
        refine AllReadyH.cons (by simp only [List.getElem?_toArray, List.getElem?_cons_zero, List.getElem?_cons_succ]; exact rfl) (fun K hK => ?_) AllReadyH.nil
        go_simp
        have hS5 : (w4.setCell ⟨w.heap.size + 2, 1, none⟩ (.slice (some ⟨g2, 0, none⟩) (ms.length + 1) cap2)).cell? ⟨w.heap.size, 1, none⟩ = some (.slice (some ⟨b, off, none⟩) l.length c) ∧ (w4.setCell ⟨w.heap.size + 2, 1, none⟩ (.slice (some ⟨g2, 0, none⟩) (ms.length + 1) cap2)).cell? ⟨b, off + k, none⟩ = some (.string X) := ⟨by rw [World.cell?_setCell_other _ _ _ _ (by intro hh; injection hh with h1 _ _; omega)]; exact hS4.1, by rw [World.cell?_setCell_other _ _ _ _ (by intro hh; injection hh with h1 _ _; omega)]; exact hS4.2⟩
        refine hK.out _ _ hS5 (fun _ => ?_)
        clear hK K
        refine wpAnyH_done (by kernel_rfl) ?_ _
        refine NoPanic.normal ?_
        have hfin : Hid (PatV (w4.setCell ⟨w.heap.size + 2, 1, none⟩ (.slice (some ⟨g2, 0, none⟩) (ms.length + 1) cap2)) w.heap.size i (.slice (some ⟨b, off, none⟩) l.length c) f ∧ PatV (w4.setCell ⟨w.heap.size + 2, 1, none⟩ (.slice (some ⟨g2, 0, none⟩) (ms.length + 1) cap2)) (w.heap.size + 1) ⟨#[]⟩ (.slice none 0 0) ⟨#[]⟩ ∧ PatV (w4.setCell ⟨w.heap.size + 2, 1, none⟩ (.slice (some ⟨g2, 0, none⟩) (ms.length + 1) cap2)) (w.heap.size + 2) i (.slice (some ⟨g2, 0, none⟩) (ms.length + 1) cap2) f ∧ OwnS (w4.setCell ⟨w.heap.size + 2, 1, none⟩ (.slice (some ⟨g2, 0, none⟩) (ms.length + 1) cap2)) (w.heap.size + 3) (.slice (some ⟨g2, 0, none⟩) (ms.length + 1) cap2) (ms ++ [m]) ∧ Below w.heap.size w (w4.setCell ⟨w.heap.size + 2, 1, none⟩ (.slice (some ⟨g2, 0, none⟩) (ms.length + 1) cap2))) := by
          refine ⟨(hP1.of_block (e4 _ (by omega))).of_block (Below.heap_setCell _ _ _ _ (by show w.heap.size ≠ w.heap.size + 2; omega)), (hP2.of_block (e4 _ (by omega))).of_block (Below.heap_setCell _ _ _ _ (by show w.heap.size + 1 ≠ w.heap.size + 2; omega)), hQ4.set _, ?_, ?_⟩
          · exact ownS_block hown4 (fun g hg _ => Below.heap_setCell _ _ _ _ (by show g ≠ w.heap.size + 2; omega))
          · have hx : Below w.heap.size w w4 := HBW.trans (((Below.refl _ _).alloc (by omega) _).trans (hb4.mono (by omega)))
            exact Below.setCell hx (by show w.heap.size ≤ w.heap.size + 2; omega) _
        clear hS5 hS4 hQ4 d0 d1 d2 y0 y1 y2 hown4 hgrow1 hb4 e4 hP1 hP2 hP3 HBW hSW glW hownW
        go_wp2_with fail
        go_roundw
        case rel => exact ⟨k + 1, (.slice (some ⟨g2, 0, none⟩) (ms.length + 1) cap2), hk'.out, by simp, by rw [hlk.out]; exact hfin⟩
        case measure => have := hk'.out; simp [intOf]; omega
    · have hke : k = l.length := by omega
      subst hke
      rw [List.take_length] at hI
      have k1 : ¬ (l.length : Int) < (l.length : Int) := by omega
      obtain ⟨⟨g0, x0⟩, ⟨g1, x1⟩, ⟨g2, x2⟩⟩ := hI.out.2.1.cells
      obtain ⟨va, vn, vc, rfl⟩ : ∃ a n c, v = .slice a n c := by
        rcases ownS_form hI.out.2.2.2.1 with ⟨h, _⟩ | ⟨g, cap, h⟩
        · exact ⟨_, _, _, h⟩
        · exact ⟨_, _, _, h⟩
      go_wp2_with fail
      have hres := hI.out.2.1.whole (i' := i) (v' := .slice va vn vc) (f' := f)
      refine bodyPost_ret (results_cell _ _ _ rfl _ _ _ _ _ rfl (ld_pat hres)) rfl ⟨⟨_, rfl, ?_⟩, ?_⟩
      · refine ownS_base (ownS_block hI.out.2.2.2.1 (fun g hg _ => ?_)) (by omega : w.heap.size ≤ w.heap.size + 3)
        rw [Below.heap_setCell _ _ _ _ (by show g ≠ w.heap.size + 1; omega), Below.heap_setCell _ _ _ _ (by show g ≠ w.heap.size + 1; omega), Below.heap_setCell _ _ _ _ (by show g ≠ w.heap.size + 1; omega)]
      · refine Below.setCell (Below.setCell (Below.setCell hI.out.2.2.2.2 ?_ _) ?_ _) ?_ _ <;> exact Nat.le_succ _
end Go.Proofs.Ytohkmjaaigaemab
