import Derived.Test.YtdeeegocjgikoaaDoorEnSel
namespace Go.Proofs.YtdeeegocjgikoaaDoor
open Go.RowKit
set_option linter.unusedVariables false

/-- The cells of attributes, one behind the other from a block's begin on. -/
def CellsA (W : World) (g n : Nat) (F : Nat → Atr) : Prop := ∀ j, j < n → (W.cell? ⟨g, j * 3, none⟩ = some (.string (S (F j).d)) ∧ W.cell? ⟨g, j * 3 + 1, none⟩ = some (.string (S (F j).c)) ∧ W.cell? ⟨g, j * 3 + 2, none⟩ = some (.slice (F j).a (F j).l.length (F j).n)) ∧ W.frozen? ⟨g, j * 3 + 1, none⟩ = false ∧ W.frozen? ⟨g, j * 3 + 2, none⟩ = false
def st (ty : Bool) (x : Atr) : Atr := ⟨x.d, [], if ty then none else x.a, if ty then 0 else x.n, if ty then [] else x.l⟩
def gA (ys : List Atr) (j : Nat) : Atr := ys.getD j sprA
def fA (ty : Bool) (ys : List Atr) (i j : Nat) : Atr := if j < i then st ty (gA ys j) else gA ys j
theorem cell_ne {W : World} {g a b : Nat} {u : Value} (h : a ≠ b) : (W.setCell ⟨g, a, none⟩ u).cell? ⟨g, b, none⟩ = W.cell? ⟨g, b, none⟩ := World.cell?_setCell_other W _ _ _ (by intro hh; injection hh with _ h2 _; exact h h2)
theorem CellsA.one {W : World} {g n i : Nat} {ys : List Atr} (h : CellsA W g n (fA false ys i)) (hi : i < n) : CellsA (W.setCell ⟨g, i * 3 + 1, none⟩ (.string ⟨#[]⟩)) g n (fA false ys (i + 1)) := fun j hj => by
  obtain ⟨⟨h0, h1, h2⟩, z1, z2⟩ := h j hj
  rw [World.frozen?_setCell, World.frozen?_setCell]
  refine ⟨?_, z1, z2⟩
  by_cases e : j = i
  · subst e
    unfold fA at h0 h1 h2 ⊢
    rw [if_neg (Nat.lt_irrefl _)] at h0 h1 h2
    rw [if_pos (Nat.lt_succ_self _)]
    refine ⟨?_, World.cell?_setCell_same W _ _ h1, ?_⟩
    · rw [cell_ne (by omega)]; exact h0
    · rw [cell_ne (by omega)]; exact h2
  · have e2 : fA false ys (i + 1) j = fA false ys i j := by
      unfold fA
      by_cases hl : j < i
      · rw [if_pos hl, if_pos (by omega)]
      · rw [if_neg hl, if_neg (by omega)]
    rw [e2, cell_ne (by omega), cell_ne (by omega), cell_ne (by omega)]
    exact ⟨h0, h1, h2⟩
theorem CellsA.two {W : World} {g n i : Nat} {ys : List Atr} (h : CellsA W g n (fA true ys i)) (hi : i < n) : CellsA ((W.setCell ⟨g, i * 3 + 1, none⟩ (.string ⟨#[]⟩)).setCell ⟨g, i * 3 + 2, none⟩ (.slice none 0 0)) g n (fA true ys (i + 1)) := fun j hj => by
  obtain ⟨⟨h0, h1, h2⟩, z1, z2⟩ := h j hj
  rw [World.frozen?_setCell, World.frozen?_setCell, World.frozen?_setCell, World.frozen?_setCell]
  refine ⟨?_, z1, z2⟩
  by_cases e : j = i
  · subst e
    unfold fA at h0 h1 h2 ⊢
    rw [if_neg (Nat.lt_irrefl _)] at h0 h1 h2
    rw [if_pos (Nat.lt_succ_self _)]
    refine ⟨?_, ?_, ?_⟩
    · rw [cell_ne (by omega), cell_ne (by omega)]; exact h0
    · rw [cell_ne (by omega)]; exact World.cell?_setCell_same W _ _ h1
    · exact World.cell?_setCell_same _ _ _ (by rw [cell_ne (by omega)]; exact h2)
  · have e2 : fA true ys (i + 1) j = fA true ys i j := by
      unfold fA
      by_cases hl : j < i
      · rw [if_pos hl, if_pos (by omega)]
      · rw [if_neg hl, if_neg (by omega)]
    rw [e2, cell_ne (by omega), cell_ne (by omega), cell_ne (by omega), cell_ne (by omega), cell_ne (by omega), cell_ne (by omega)]
    exact ⟨h0, h1, h2⟩
theorem Row.of_blocks {W W' : World} {g b : Nat} {l : List (List UInt8)} (h : Row W (some ⟨b, 0, none⟩) l) (hg : b ≠ g) (hk : ∀ x, x ≠ g → W'.heap[x]? = W.heap[x]?) : Row W' (some ⟨b, 0, none⟩) l := fun i hi => by
  obtain ⟨b', off, e, hc⟩ := h i hi
  injection e with e
  injection e with e1 e2
  subst e1 e2
  exact ⟨b, 0, rfl, by rw [World.cell?_of_block (w := W) (a := ⟨b, 0 + i, none⟩) (hk b hg)]; exact hc⟩

set_option maxRecDepth 100000 in
set_option maxHeartbeats 2000000 in
theorem stripped_any (ty : Bool) (xs : List Atr) (a : Option Addr) (c : Nat) (w : World) (hn : xs.length ≤ 1048576) (hl : ∀ x ∈ xs, x.l.length ≤ 1048576) (h : ARow w a xs) :
    Calls Tryd.prog 9 #[.slice a xs.length c, .bool ty] w fun e w' => (∃ g cap zs, e = .returned (.slice (some ⟨g, 0, none⟩) xs.length cap) ∧ ARow w' (some ⟨g, 0, none⟩) zs ∧ zs.map pl = selL (fun _ => true) ty xs ∧ xs.length ≤ cap) ∧ Below w.heap.size w w' := by
  have hC : Hid (Calls Tryd.prog 12 #[.slice a xs.length c] w fun e w' => (∃ g cap, e = .returned (.slice (some ⟨g, 0, none⟩) xs.length cap) ∧ ∃ ys, CopyA w' w.heap.size g cap xs ys) ∧ Below w.heap.size w w') := copyAttrs_any xs a c w hn hl h
  clear h hl
  go_enter Tryd.func9, Tryd.ntmps9
  go_wp2_with (go_at_call 12; refine hC.out.mono ?_; rintro e w1 ⟨⟨g, cap, rfl, ys, hY⟩, hb1⟩)
  have hlen := hY.len
  have hcap : Hid (xs.length ≤ cap) := by have := hY.lt.2.2; unfold Hid; omega
  have hgB : Hid (w.heap.size ≤ g) := hY.lt.1
  have hap : Hid (∀ y ∈ ys, ∃ b, y.a = some ⟨b, 0, none⟩ ∧ b ≠ g ∧ Row w1 y.a y.l) := fun y hy => by
    obtain ⟨b, e, hm⟩ := hY.2.1 y hy
    refine ⟨b, e, fun hbg => ?_, by rw [e]; exact hm.row.front⟩
    subst hbg
    exact owns_apart (show World.ownsRow _ _ 32 3 _ _ _ from hY.1) (show World.ownsRow _ _ 9 1 _ _ _ from hm) (by decide) rfl rfl
  have hI0 : Hid (CellsA w1 g xs.length (fA ty ys 0)) := fun j hj => by
    have hj' : j < ys.length := by rw [hlen]; exact hj
    obtain ⟨h1, h2, h3⟩ := ownA_cells hY.1 j (by rw [List.length_append]; omega)
    simp only [List.getElem_append_left hj'] at h1 h2 h3
    have e : fA ty ys 0 j = ys[j] := by
      unfold fA gA
      rw [if_neg (by omega)]
      simp [List.getD, hj']
    rw [e]
    refine ⟨⟨h1, h2, h3⟩, ?_, ?_⟩
    · rcases hY.1.2 with ⟨hv, _⟩ | ⟨g', cap', cur, hv, _, hh, _⟩
      · cases hv
      · injection hv with hv _ _
        injection hv with hv
        injection hv with hv
        subst hv
        exact Go.frozen_of_row _ _ _ _ _ hh
    · rcases hY.1.2 with ⟨hv, _⟩ | ⟨g', cap', cur, hv, _, hh, _⟩
      · cases hv
      · injection hv with hv _ _
        injection hv with hv
        injection hv with hv
        subst hv
        exact Go.frozen_of_row _ _ _ _ _ hh
  have hpl : Hid (ys.map pl = xs.map pl ∧ ys.length = xs.length) := ⟨hY.2.2, hlen⟩
  have hb1' : Hid (Below w.heap.size w w1) := hb1
  clear hY hlen hb1 hC
  go_loopw [6] (fun iv wr => ∃ (i : Nat), i ≤ xs.length ∧ iv = .int .i64 (i : Int) ∧ Hid (CellsA wr g xs.length (fA ty ys i) ∧ (∀ x, x ≠ g → wr.heap[x]? = w1.heap[x]?) ∧ Below w.heap.size w wr)) (fun iv _ => xs.length - (intOf iv).toNat)
  case atStart => exact ⟨0, Nat.zero_le _, rfl, hI0.out, fun _ _ => rfl, hb1'.out⟩
  case round =>
    obtain ⟨i, hi, rfl, hI⟩ := hrel
    clear hI0
    by_cases hlt : i < xs.length
    · have i0 : (0 : Int) ≤ (i : Int) := Int.natCast_nonneg _
      have i1 : (i : Int) < (xs.length : Int) := Int.ofNat_lt.2 hlt
      obtain ⟨⟨c0, c1, c2⟩, z1, z2⟩ := hI.out.1 i hlt
      have hlt' : Hid (i < xs.length) := hlt
      cases ty with
      | false =>
        have hfin : Hid (CellsA (wr.setCell ⟨g, i * 3 + 1, none⟩ (.string ⟨#[]⟩)) g xs.length (fA false ys (i + 1)) ∧ (∀ x, x ≠ g → (wr.setCell ⟨g, i * 3 + 1, none⟩ (.string ⟨#[]⟩)).heap[x]? = w1.heap[x]?) ∧ Below w.heap.size w (wr.setCell ⟨g, i * 3 + 1, none⟩ (.string ⟨#[]⟩))) := ⟨hI.out.1.one hlt, fun x hx => by rw [Below.heap_setCell _ _ _ _ hx]; exact hI.out.2.1 x hx, hI.out.2.2.setCell (p := ⟨g, i * 3 + 1, none⟩) hgB.out _⟩
        clear hI hlt
        go_wp2_with fail
        go_roundw
        case rel => exact ⟨i + 1, hlt'.out, by simp, hfin⟩
        case measure => have := hlt'.out; simp [intOf]; omega
      | true =>
        have hfin : Hid (CellsA ((wr.setCell ⟨g, i * 3 + 1, none⟩ (.string ⟨#[]⟩)).setCell ⟨g, i * 3 + 2, none⟩ (.slice none 0 0)) g xs.length (fA true ys (i + 1)) ∧ (∀ x, x ≠ g → ((wr.setCell ⟨g, i * 3 + 1, none⟩ (.string ⟨#[]⟩)).setCell ⟨g, i * 3 + 2, none⟩ (.slice none 0 0)).heap[x]? = w1.heap[x]?) ∧ Below w.heap.size w ((wr.setCell ⟨g, i * 3 + 1, none⟩ (.string ⟨#[]⟩)).setCell ⟨g, i * 3 + 2, none⟩ (.slice none 0 0))) := ⟨hI.out.1.two hlt, fun x hx => by rw [Below.heap_setCell _ _ _ _ hx, Below.heap_setCell _ _ _ _ hx]; exact hI.out.2.1 x hx, (hI.out.2.2.setCell (p := ⟨g, i * 3 + 1, none⟩) hgB.out _).setCell (p := ⟨g, i * 3 + 2, none⟩) hgB.out _⟩
        have d2 : (wr.setCell ⟨g, i * 3 + 1, none⟩ (.string ⟨#[]⟩)).cell? ⟨g, i * 3 + 2, none⟩ = some (.slice (fA true ys i i).a (fA true ys i i).l.length (fA true ys i i).n) := by rw [cell_ne (by omega)]; exact c2
        clear hI hlt
        go_wp2_with fail
        go_roundw
        case rel => exact ⟨i + 1, hlt'.out, by simp, hfin⟩
        case measure => have := hlt'.out; simp [intOf]; omega
    · have hie : i = xs.length := by omega
      subst hie
      have k1 : ¬ (xs.length : Int) < (xs.length : Int) := by omega
      go_wp2_with fail
      go_ret
      obtain ⟨p1, p2⟩ := hpl.out
      refine ⟨⟨g, cap, rfl, ys.map (st ty), fun j hj => ?_, ?_, hcap.out⟩, hI.out.2.2⟩
      · have hj1 : j < ys.length := by simpa using hj
        have hj2 : j < xs.length := by omega
        obtain ⟨⟨c0, c1, c2⟩, _, _⟩ := hI.out.1 j hj2
        have e : fA ty ys xs.length j = (ys.map (st ty))[j] := by
          unfold fA gA
          rw [if_pos hj2]
          simp [List.getD, hj1]
        rw [e] at c0 c1 c2
        refine ⟨⟨g, 0, rfl, by simpa using c0, by simpa using c1, by simpa using c2⟩, ?_⟩
        have e3 : (ys.map (st ty))[j] = st ty ys[j] := by simp
        rw [e3]
        obtain ⟨b, eb, hbg, hr⟩ := hap.out ys[j] (List.getElem_mem hj1)
        cases ty with
        | true => exact Row.nil _ _
        | false =>
          show Row wr ys[j].a ys[j].l
          rw [eb] at hr ⊢
          exact hr.of_blocks hbg hI.out.2.1
      · have e : ∀ zs : List Atr, selL (fun _ => true) ty zs = (zs.map pl).map fun t => (t.1, [], if ty then [] else t.2.2) := fun zs => by
          unfold selL
          have hf : zs.filter (fun _ => true) = zs := List.filter_eq_self.2 (fun _ _ => rfl)
          rw [hf, List.map_map]
          rfl
        rw [e, ← p1, List.map_map, List.map_map]
        congr 1
end Go.Proofs.YtdeeegocjgikoaaDoor
