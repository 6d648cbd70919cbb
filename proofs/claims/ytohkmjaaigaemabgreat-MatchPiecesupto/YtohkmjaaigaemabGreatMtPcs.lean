import Derived.Test.YtohkmjaaigaemabGreatMtHas
namespace Go.Proofs.YtohkmjaaigaemabGreat
open Go.RowKit
open FitM (gre progF St idx_st prog_in prog_front prog_back prog_both prog_laid)
set_option linter.unusedVariables false

theorem row_lit {W : World} {g : Nat} {l : List (List UInt8)} {t : TypeId} (h : W.heap[g]? = some (.cells (l.map (fun x => Value.string (S x))).toArray t (0, 0))) : Row W (some ⟨g, 0, none⟩) l := fun i hi => ⟨g, 0, rfl, by
  have := (row_cell h (j := i) (by simpa using hi)).1
  rw [Nat.zero_add, this]
  simp⟩
theorem tv_int (b : Bool) : ∃ t : Int, tv b = .int .i64 t := by
  cases b
  · exact ⟨0, rfl⟩
  · exact ⟨2, rfl⟩
theorem row_at {W : World} {g : Nat} {l : List (List UInt8)} (h : Row W (some ⟨g, 0, none⟩) l) (j : Nat) (hj : j < l.length) : W.cell? ⟨g, j, none⟩ = some (.string (S l[j])) := by
  obtain ⟨b, o, e, hc⟩ := h j hj
  injection e with e
  injection e with e1 e2 _
  subst e1; subst e2
  rw [Nat.zero_add] at hc
  exact hc
set_option maxRecDepth 100000 in
set_option maxHeartbeats 4000000 in
theorem pieces_walk (i m n f gap : ByteArray) (k : Int) (w : World) (hm : w.cell? ⟨0, 0, none⟩ = some (.int .i64 k)) (Y : i.size + m.size + n.size + f.size + gap.size ≤ 1048576) :
    Calls Tryz.prog 3 #[.string i, .string m, .string n, .string f, .string gap] w fun e w' => e = .returned (.bool true) ∧ Below w.heap.size w w' := by
  obtain ⟨v, hv⟩ : ∃ v, i ++ gap ++ m ++ gap ++ n ++ f = v := ⟨_, rfl⟩
  have hvs : v.size ≤ 4194304 := by rw [← hv]; simp only [ByteArray.size_append]; omega
  have hvl : v.data.toList = i.data.toList ++ gap.data.toList ++ m.data.toList ++ gap.data.toList ++ n.data.toList ++ f.data.toList := by rw [← hv]; simp only [app_l]
  obtain ⟨Wp, hWp⟩ : ∃ W, w.alloc (.cells #[.string m, .string n] 9) = W := ⟨_, rfl⟩
  obtain ⟨Wq, hWq⟩ : ∃ W, Wp.alloc (.cells #[.string i, .slice (some ⟨w.heap.size, 0, none⟩) 2 2, .string f] 24) = W := ⟨_, rfl⟩
  have np : Wp.heap.size = w.heap.size + 1 := by rw [← hWp]; simp
  have b1 : Below w.heap.size w Wp := by rw [← hWp]; exact (Below.refl _ _).alloc (Nat.le_refl _) _
  have b2 : Below Wp.heap.size Wp Wq := by rw [← hWq]; exact (Below.refl _ _).alloc (Nat.le_refl _) _
  have r1 : Row Wp (some ⟨w.heap.size, 0, none⟩) [m.data.toList, n.data.toList] := row_lit (t := 9) (by rw [← hWp, heap_alloc_last]; simp [S_of])
  have p1 : PatV Wq (w.heap.size + 1) i (.slice (some ⟨w.heap.size, 0, none⟩) 2 2) f := by rw [← np, ← hWq]; exact heap_alloc_last Wp _
  have hM : ∀ W', Below w.heap.size w W' → W'.cell? ⟨0, 0, none⟩ = some (.int .i64 k) := fun W' hb => (hb.cell (World.block_lt_of_cell? w _ hm)).trans hm
  have bq : Below w.heap.size w Wq := b1.trans (b2.mono b1.size)
  have hT : progF v.data.toList i.data.toList [m.data.toList, n.data.toList] f.data.toList = true := by rw [hvl]; exact prog_laid _ _ _ _ _
  have hC := contains_any v i f [m.data.toList, n.data.toList] (some ⟨w.heap.size, 0, none⟩) 2 k Wq (hM _ bq) (r1.below b2) hvs (by show 2 ≤ _; omega) (fun q => by cases q.2.2)
  rw [hT] at hC
  have hF : ∀ W', Below Wq.heap.size Wq W' → Hid (Calls Tryz.prog 5 #[.string v, .agg #[.string i, .slice (some ⟨w.heap.size, 0, none⟩) 2 2, .string f]] W' fun e w' => e = .returned (.bool true) ∧ Below W'.heap.size W' w') := fun W' hb => by
    have := fits_any v i f [m.data.toList, n.data.toList] (some ⟨w.heap.size, 0, none⟩) 2 k W' (hM _ (bq.trans (hb.mono bq.size))) ((r1.below b2).below hb) hvs (by show 2 ≤ _; omega)
    rw [hT] at this
    exact this
  have hP : ∀ W', Below Wq.heap.size Wq W' → (W'.cell? ⟨w.heap.size + 1, 0, none⟩ = some (.string i) ∧ W'.cell? ⟨w.heap.size + 1, 1, none⟩ = some (.slice (some ⟨w.heap.size, 0, none⟩) 2 2) ∧ W'.cell? ⟨w.heap.size + 1, 2, none⟩ = some (.string f)) := fun W' hb =>
    have q := (p1.of_block (hb.block _ p1.lt)).cells
    ⟨q.1.1, q.2.1.1, q.2.2.1⟩
  have hbase : Hid (Below w.heap.size w Wq ∧ ∀ W', Below w.heap.size w W' → W'.cell? ⟨0, 0, none⟩ = some (.int .i64 k)) := ⟨bq, hM⟩
  obtain ⟨c0, c1, c2⟩ := hP Wq (Below.refl _ _)
  have hvS : Hid (v.size ≤ 4194304) := hvs
  have hi : i.size ≤ 1048576 := by omega
  have hm' : m.size ≤ 1048576 := by omega
  have hn : n.size ≤ 1048576 := by omega
  have hf : f.size ≤ 1048576 := by omega
  have hg : gap.size ≤ 1048576 := by omega
  have YH : Hid (i.size + m.size + n.size + f.size + gap.size ≤ 1048576) := Y
  clear hM bq hT b1 b2 r1 p1 hvl hvs hm Y
  go_enter Tryz.func3, Tryz.ntmps3
  go_wp2_with fail
  refine hC.mono ?_
  rintro e W1 ⟨rfl, hb1⟩
  have o1 : Hid (Below Wq.heap.size Wq W1) := hb1
  have hF1 := (hF W1 hb1).out
  clear c0 c1 c2
  obtain ⟨c0, c1, c2⟩ := hP W1 hb1
  clear hC hb1 hP hF
  simp only [tv, if_true]
  go_wp2_with fail
  refine hF1.mono ?_
  rintro e W2 ⟨rfl, hb2⟩
  have o2 : Hid (Below w.heap.size w W2) := by
    have q := o1.out.trans (hb2.mono o1.out.size)
    exact hbase.out.1.trans (q.mono hbase.out.1.size)
  clear hF1 hb2 c0 c1 c2 o1
  obtain ⟨W3, hW3⟩ : ∃ W, W2.alloc (.cells #[.string (m ++ n), .string (gap ++ m), .string f, .string (n ++ f), .string (i ++ m)] 9) = W := ⟨_, rfl⟩
  have b3 : Below W2.heap.size W2 W3 := by rw [← hW3]; exact (Below.refl _ _).alloc (Nat.le_refl _) _
  have o3 : Hid (Below w.heap.size w W3) := o2.out.trans (b3.mono o2.out.size)
  have hL : Hid (∃ L : List (List UInt8), L.length = 5 ∧ (∀ x ∈ L, x.length ≤ 4194304) ∧ Row W3 (some ⟨W2.heap.size, 0, none⟩) L) := by
    refine ⟨[(m ++ n).data.toList, (gap ++ m).data.toList, f.data.toList, (n ++ f).data.toList, (i ++ m).data.toList], rfl, ?_, row_lit (t := 9) (by rw [← hW3, heap_alloc_last]; simp only [List.map_cons, List.map_nil, S_of])⟩
    intro x hx
    have Y := YH.out
    simp only [List.mem_cons, List.not_mem_nil, or_false] at hx
    rcases hx with rfl | rfl | rfl | rfl | rfl <;> rw [size_l] <;> (try rw [ByteArray.size_append]) <;> omega
  clear b3
  go_wp2_with fail
  obtain ⟨L, hL5, hLs, hLr⟩ := hL.out
  have hLL : Hid (L.length = 5 ∧ (∀ x ∈ L, x.length ≤ 4194304) ∧ Row W3 (some ⟨W2.heap.size, 0, none⟩) L) := ⟨hL5, hLs, hLr⟩
  obtain ⟨g, hg'⟩ : ∃ g, W2.heap.size = g := ⟨_, rfl⟩
  rw [hg'] at hLL
  simp only [hg']
  clear hL hL5 hLs hLr hW3 hg' hWp hWq np hv o2
  go_loopw [14] (fun iv wr => ∃ (j : Nat), j ≤ 5 ∧ iv = .int .i64 (j : Int) ∧ Hid (Below W3.heap.size W3 wr)) (fun iv _ => 5 - (intOf iv).toNat)
  case atStart => exact ⟨0, by omega, rfl, Below.refl _ _⟩
  case round =>
    obtain ⟨j, hj, rfl, hB⟩ := hrel
    by_cases hlt : j < 5
    · have hjL : j < L.length := by rw [hLL.out.1]; exact hlt
      obtain ⟨x, hx⟩ : ∃ x, L[j] = x := ⟨_, rfl⟩
      have hcell : ∀ W', Below W3.heap.size W3 W' → W'.cell? ⟨g, j, none⟩ = some (.string (S x)) := fun W' hb => by rw [← hx]; exact row_at (hLL.out.2.2.below hb) j hjL
      have hxs : x.length ≤ 4194304 := by rw [← hx]; exact hLL.out.2.1 _ (List.getElem_mem hjL)
      have hMx : ∀ W', Below W3.heap.size W3 W' → W'.cell? ⟨0, 0, none⟩ = some (.int .i64 k) := fun W' hb => hbase.out.2 W' (o3.out.trans (hb.mono o3.out.size))
      have B0 : Below W3.heap.size W3 wr.drew := hB.out.drew
      have B1 : Below W3.heap.size W3 (wr.drew.alloc (.cells #[.string (S x)] 9)) := B0.alloc B0.size _
      obtain ⟨t1, ht1⟩ := tv_int (decide (0 ≤ Lib.index v.data.toList x))
      have hC1 := contains_any v ⟨#[]⟩ ⟨#[]⟩ [x] (some ⟨wr.drew.heap.size, 0, none⟩) 1 k (wr.drew.alloc (.cells #[.string (S x)] 9)) (hMx _ B1) (row_lit (t := 9) (by rw [heap_alloc_last]; simp)) hvS.out (by show 1 ≤ _; omega) (fun q => by cases q.2.2)
      rw [show progF v.data.toList (⟨#[]⟩ : ByteArray).data.toList [x] (⟨#[]⟩ : ByteArray).data.toList = decide (0 ≤ Lib.index v.data.toList x) from prog_in _ _, ht1] at hC1
      have hH1 : ∀ W', Hid (Calls Tryz.prog 7 #[.string v, .string (S x)] W' fun e w' => e = .returned (.bool (decide (0 ≤ Lib.index v.data.toList x))) ∧ w' = W') := fun W' => by
        have := has_any v (S x) W' hvS.out (by rw [S_size]; exact hxs)
        rw [S_l] at this
        exact this
      have hT1 : ∀ W', Hid (Calls Tryz.prog 6 #[.bool (decide (0 ≤ Lib.index v.data.toList x))] W' fun e w' => e = .returned (.int .i64 t1) ∧ w' = W') := fun W' => by
        have := truth_any (decide (0 ≤ Lib.index v.data.toList x)) W'
        rw [ht1] at this
        exact this
      obtain ⟨d1, hd1⟩ : ∃ d, decide (0 ≤ Lib.index v.data.toList x) = d := ⟨_, rfl⟩
      rw [hd1] at hH1 hT1
      obtain ⟨X, hX⟩ : ∃ X, S x = X := ⟨_, rfl⟩
      rw [hX] at hC1 hH1 B1 hcell
      have i0 : (0 : Int) ≤ (j : Int) := Int.natCast_nonneg _
      have i1 : (j : Int) < 5 := by omega
      have cx := hcell _ hB.out
      have hHi : Hid (S x = X ∧ x.length ≤ 4194304 ∧ j < 5 ∧ (∀ W', Below W3.heap.size W3 W' → W'.cell? ⟨0, 0, none⟩ = some (.int .i64 k))) := ⟨hX, hxs, hlt, hMx⟩
      clear hX hxs hx hjL hMx ht1 hd1
      go_wp2_with fail
      go_region_held3 (fun w' => w'.cell? ⟨g, j, none⟩ = some (.string X))
        (first
          | exact hcell _ B0
          | exact hcell _ B1
          | exact hcell _ HB2)
        (first
          | (go_at_call 4; refine hC1.mono ?_; rintro e w2 ⟨rfl, hb2⟩; have HB2 : Below W3.heap.size W3 w2 := B1.trans (hb2.mono B1.size); clear hb2)
          | (go_at_call 7; refine (hH1 _).out.mono ?_; rintro e w3 ⟨rfl, rfl⟩)
          | (go_at_call 6; refine (hT1 _).out.mono ?_; rintro e w4 ⟨rfl, rfl⟩))
      have HB4 : Hid (Below W3.heap.size W3 w4) := HB2
      clear hC1 hH1 hT1 B0 B1 cx HB2
      have cx := hcell w4 HB4.out
      cases hE : X.toList.isEmpty with
      | true =>
        go_wp2_with fail
        go_roundw
        case rel => exact ⟨j + 1, hHi.out.2.2.1, by simp, HB4⟩
        case measure => have := hHi.out.2.2.1; simp [intOf]; omega
      | false =>
        have B4 : Below W3.heap.size W3 w4.drew := HB4.out.drew
        obtain ⟨t2, ht2⟩ := tv_int (Lib.hasPrefix v.data.toList X.data.toList)
        have hC2 := contains_any v X ⟨#[]⟩ [] none 0 k w4.drew (hHi.out.2.2.2 _ B4) (fun i hi => absurd hi (Nat.not_lt_zero _)) hvS.out (by show 0 ≤ _; omega) (fun q => by rw [hE] at q; cases q.1)
        rw [show progF v.data.toList X.data.toList [] (⟨#[]⟩ : ByteArray).data.toList = Lib.hasPrefix v.data.toList X.data.toList from prog_front _ _, ht2] at hC2
        have hH2 : ∀ W', Hid (Calls Tryz.prog 8 #[.string v, .string X] W' fun e w' => e = .returned (.bool (Lib.hasPrefix v.data.toList X.data.toList)) ∧ w' = W') := fun W' => begins_any v X W'
        have hT2 : ∀ W', Hid (Calls Tryz.prog 6 #[.bool (Lib.hasPrefix v.data.toList X.data.toList)] W' fun e w' => e = .returned (.int .i64 t2) ∧ w' = W') := fun W' => by
          have := truth_any (Lib.hasPrefix v.data.toList X.data.toList) W'
          rw [ht2] at this
          exact this
        obtain ⟨d2, hd2⟩ : ∃ d, Lib.hasPrefix v.data.toList X.data.toList = d := ⟨_, rfl⟩
        rw [hd2] at hH2 hT2
        clear ht2 hd2
        go_wp2_with fail
        go_region_held3 (fun w' => w'.cell? ⟨g, j, none⟩ = some (.string X))
          (first
            | exact hcell _ B4
            | exact hcell _ HB5)
          (first
            | (go_at_call 4; refine hC2.mono ?_; rintro e w5 ⟨rfl, hb5⟩; have HB5 : Below W3.heap.size W3 w5 := B4.trans (hb5.mono B4.size); clear hb5)
            | (go_at_call 8; refine (hH2 _).out.mono ?_; rintro e w6 ⟨rfl, rfl⟩)
            | (go_at_call 6; refine (hT2 _).out.mono ?_; rintro e w7 ⟨rfl, rfl⟩))
        have HB7 : Hid (Below W3.heap.size W3 w7) := HB5
        clear hC2 hH2 hT2 B4 cx HB5
        have cx := hcell w7 HB7.out
        have B7 : Below W3.heap.size W3 w7.drew := HB7.out.drew
        obtain ⟨t3, ht3⟩ := tv_int (Lib.hasSuffix v.data.toList X.data.toList)
        have hC3 := contains_any v ⟨#[]⟩ X [] none 0 k w7.drew (hHi.out.2.2.2 _ B7) (fun i hi => absurd hi (Nat.not_lt_zero _)) hvS.out (by show 0 ≤ _; omega) (fun q => by rw [hE] at q; cases q.2.1)
        rw [show progF v.data.toList (⟨#[]⟩ : ByteArray).data.toList [] X.data.toList = Lib.hasSuffix v.data.toList X.data.toList from prog_back _ _, ht3] at hC3
        have hH3 : ∀ W', Hid (Calls Tryz.prog 9 #[.string v, .string X] W' fun e w' => e = .returned (.bool (Lib.hasSuffix v.data.toList X.data.toList)) ∧ w' = W') := fun W' => ends_any v X W' hvS.out
        have hT3 : ∀ W', Hid (Calls Tryz.prog 6 #[.bool (Lib.hasSuffix v.data.toList X.data.toList)] W' fun e w' => e = .returned (.int .i64 t3) ∧ w' = W') := fun W' => by
          have := truth_any (Lib.hasSuffix v.data.toList X.data.toList) W'
          rw [ht3] at this
          exact this
        obtain ⟨d3, hd3⟩ : ∃ d, Lib.hasSuffix v.data.toList X.data.toList = d := ⟨_, rfl⟩
        rw [hd3] at hH3 hT3
        clear ht3 hd3 hE
        go_wp2_with fail
        go_region_held3 (fun w' => w'.cell? ⟨g, j, none⟩ = some (.string X))
          (first
            | exact hcell _ B7
            | exact hcell _ HB8)
          (first
            | (go_at_call 4; refine hC3.mono ?_; rintro e w8 ⟨rfl, hb8⟩; have HB8 : Below W3.heap.size W3 w8 := B7.trans (hb8.mono B7.size); clear hb8)
            | (go_at_call 9; refine (hH3 _).out.mono ?_; rintro e w9 ⟨rfl, rfl⟩)
            | (go_at_call 6; refine (hT3 _).out.mono ?_; rintro e w10 ⟨rfl, rfl⟩))
        have HB10 : Hid (Below W3.heap.size W3 w10) := HB8
        clear hC3 hH3 hT3 B7 cx HB8
        go_wp2_with fail
        go_roundw
        case rel => exact ⟨j + 1, hHi.out.2.2.1, by simp, HB10⟩
        case measure => have := hHi.out.2.2.1; simp [intOf]; omega
    · have i1 : ¬ (j : Int) < 5 := by omega
      have ow : Hid (Below w.heap.size w wr) := o3.out.trans (hB.out.mono o3.out.size)
      have hF := fits_any v v v [] none 0 k wr (hbase.out.2 _ ow.out) (fun i hi => absurd hi (Nat.not_lt_zero _)) hvS.out (by show 0 ≤ _; omega)
      rw [prog_both, ← Lib.toList_data] at hF
      obtain ⟨z, hz⟩ : ∃ z, v.toList.isEmpty = z := ⟨_, rfl⟩
      rw [hz] at hF
      go_wp2_with fail
      refine hF.mono ?_
      rintro e w1 ⟨rfl, hb1⟩
      have ow1 : Hid (Below w.heap.size w w1) := ow.out.trans (hb1.mono ow.out.size)
      clear hF hb1
      go_wp2_with fail
      go_ret
      exact ⟨by simp, ow1.out⟩
end Go.Proofs.YtohkmjaaigaemabGreat
