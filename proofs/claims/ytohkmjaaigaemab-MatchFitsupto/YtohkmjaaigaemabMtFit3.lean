import Derived.Test.YtohkmjaaigaemabMtFit2
namespace Go.Proofs.Ytohkmjaaigaemab
open Go.RowKit
open FitM (St nxt refP)
set_option linter.unusedVariables false

/-- A row of truths. -/
def LRow (W : World) (g n : Nat) (e : Nat → Bool) : Prop := W.rowIs g 4 (n + 1) (fun t => .bool (e t))
theorem info_bool : (Try.prog.info? 4).map (fun i => (i.zero, i.size, i.bytes)) = some (some (.bool false), 1, 1) := by kernel_rfl
theorem LRow.below {W W' : World} {g n : Nat} {e : Nat → Bool} (h : LRow W g n e) (hb : W'.heap[g]? = W.heap[g]?) : LRow W' g n e := World.rowIs.of_block h hb
theorem LRow.set {W : World} {g n : Nat} {e : Nat → Bool} (h : LRow W g n e) (k : Nat) : LRow (W.setCell ⟨g, k, none⟩ (.bool true)) g n (fun t => if t = k then true else e t) := by
  refine (World.rowIs.set h k (.bool true)).congr (fun i hi => ?_)
  show (if i = k then Value.bool true else Value.bool (e i)) = Value.bool (if i = k then true else e i)
  by_cases q : i = k
  · rw [if_pos q, if_pos q]
  · rw [if_neg q, if_neg q]
theorem make_bool (n : Nat) (hn : n ≤ 4194304) (W : World) : (Instr.makeSlice 34 (.int .i64 ((n : Int) + 1)) (.int .i64 ((n : Int) + 1))).run Try.prog W = .ok (.slice (some ⟨W.heap.size, 0, none⟩) (n + 1) (n + 1)) (W.alloc (.cells (madeCells #[.bool false] (n + 1)) 4)) := by
  have h := run_make_row' (P := Try.prog) 34 4 (.bool false) 1 Try.underlying34 info_bool rfl .i64 .i64 (n + 1) (by omega) (by omega) W
  rw [Int.natCast_add, Int.natCast_one] at h
  exact h
theorem lrow_made (W : World) (n : Nat) : LRow (W.alloc (.cells (madeCells #[.bool false] (n + 1)) 4)) W.heap.size n (fun _ => false) := World.rowIs_made W (.bool false) (n + 1) 4
theorem exists_step {e : Nat → Bool} {j : Nat} : (∃ q, q < j + 1 ∧ e q = true) ↔ (∃ q, q < j ∧ e q = true) ∨ e j = true := by
  constructor
  · rintro ⟨q, h1, h2⟩
    rcases Nat.lt_or_ge q j with h | h
    · exact Or.inl ⟨q, h, h2⟩
    · have : q = j := by omega
      subst this
      exact Or.inr h2
  · rintro (⟨q, h1, h2⟩ | h)
    · exact ⟨q, by omega, h2⟩
    · exact ⟨j, by omega, h⟩
/-- What stands in the next row behind the first j places. -/
def NxP (V : List UInt8) (e : Nat → Bool) (p : List UInt8) (j t : Nat) : Prop := ∃ q, q < j ∧ t = q + p.length ∧ (∃ r, r ≤ q ∧ e r = true) ∧ St V q p
/-- The inner loop's own. -/
def Inn (V : List UInt8) (e e2 : Nat → Bool) (p : List UInt8) (n j : Nat) (fr : Bool) : Prop := (fr = true ↔ ∃ q, q < j ∧ e q = true) ∧ ∀ t, t ≤ n → (e2 t = true ↔ NxP V e p j t)
/-- A truth that says just whether P. -/
def FitQ (P : Prop) (e : Ending) : Prop := ∃ b, e = .returned (.bool b) ∧ (b = true ↔ P)
theorem nx_skip (V : List UInt8) (e : Nat → Bool) (p : List UInt8) (j t : Nat) (h : ¬ ((∃ r, r < j + 1 ∧ e r = true) ∧ St V j p)) : NxP V e p (j + 1) t ↔ NxP V e p j t := by
  constructor
  · rintro ⟨q, h1, h2, ⟨r, h3, h4⟩, h5⟩
    rcases Nat.lt_or_ge q j with hq | hq
    · exact ⟨q, hq, h2, ⟨r, h3, h4⟩, h5⟩
    · have : q = j := by omega
      subst this
      exact absurd ⟨⟨r, by omega, h4⟩, h5⟩ h
  · rintro ⟨q, h1, h2⟩
    exact ⟨q, by omega, h2⟩
theorem nx_set (V : List UInt8) (e : Nat → Bool) (p : List UInt8) (j t : Nat) (h1 : ∃ r, r < j + 1 ∧ e r = true) (h2 : St V j p) : NxP V e p (j + 1) t ↔ t = j + p.length ∨ NxP V e p j t := by
  constructor
  · rintro ⟨q, a1, a2, a3, a4⟩
    rcases Nat.lt_or_ge q j with hq | hq
    · exact Or.inr ⟨q, hq, a2, a3, a4⟩
    · have : q = j := by omega
      subst this
      exact Or.inl a2
  · rintro (rfl | ⟨q, a1, a2⟩)
    · obtain ⟨r, r1, r2⟩ := h1
      exact ⟨j, by omega, rfl, ⟨r, by omega, r2⟩, h2⟩
    · exact ⟨q, by omega, a2⟩
theorem nx_end (V : List UInt8) (e : Nat → Bool) (p : List UInt8) (E : Nat → Prop) (hE : ∀ t, t ≤ V.length → (e t = true ↔ E t)) (t : Nat) : NxP V e p (V.length + 1) t ↔ nxt V E p t := by
  constructor
  · rintro ⟨q, h1, h2, ⟨r, h3, h4⟩, h5⟩
    exact ⟨q, h2, ⟨r, h3, (hE r (by omega)).1 h4⟩, h5⟩
  · rintro ⟨q, h2, ⟨r, h3, h4⟩, h5⟩
    have := h5.1
    exact ⟨q, by omega, h2, ⟨r, h3, (hE r (by omega)).2 h4⟩, h5⟩

set_option maxRecDepth 100000 in
set_option maxHeartbeats 4000000 in
theorem refFits_any (v i f : ByteArray) (l : List (List UInt8)) (a : Option Addr) (c : Nat) (w : World) (hr : Row w a l) (hv : v.size ≤ 4194304) (hi : i.size ≤ 4194304) (hf : f.size ≤ 4194304) (hl : l.length ≤ 4194304) (hls : ∀ x ∈ l, x.length ≤ 4194304) :
    Calls Try.prog 7 #[.string v, .agg #[.string i, .slice a l.length c, .string f]] w fun e w' => FitQ (refP v.data.toList i.data.toList l f.data.toList) e ∧ Below w.heap.size w w' := by
  obtain ⟨W0, hW0⟩ : ∃ W0, w.alloc (.cells #[.string i, .slice a l.length c, .string f] 24) = W0 := ⟨_, rfl⟩
  have hB0 : Below w.heap.size w W0 := by rw [← hW0]; exact (Below.refl _ _).alloc (Nat.le_refl _) _
  have hP0 : PatB W0 w.heap.size i a l.length c f := by rw [← hW0]; exact patB_new _ _ _ _ _ _
  obtain ⟨⟨c0, z0⟩, ⟨c1, z1⟩, ⟨c2, z2⟩⟩ := hP0.cells
  have hS0 : Hid (Calls Try.prog 13 #[.string v, .int .i64 0, .string i] W0 fun e w' => e = .returned (.bool (stB v.data.toList 0 i.data.toList)) ∧ w' = W0) := stands_any v i 0 W0 hv hi (by omega)
  have hr' : Hid (Row w a l) := hr
  have hls' : Hid (∀ x ∈ l, x.length ≤ 4194304) := hls
  have hI0 : Hid (PatB W0 w.heap.size i a l.length c f ∧ Below w.heap.size w W0) := ⟨hP0, hB0⟩
  clear hr hls hP0 hB0
  go_enter Try.func7, Try.ntmps7
  go_wp2_with fail
  refine hS0.out.mono ?_
  rintro e W0' ⟨rfl, hw0⟩
  subst hw0
  clear hS0
  by_cases hst : St v.data.toList 0 i.data.toList
  · rw [(stB_iff _ _ _).2 hst]
    have hst' : Hid (St v.data.toList 0 i.data.toList) := hst
    have his : i.size ≤ v.size := by have h := hst.1; rw [size_l, size_l] at h; omega
    obtain ⟨W1, hW1⟩ : ∃ W1, W0'.alloc (.cells (madeCells #[.bool false] (v.size + 1)) 4) = W1 := ⟨_, rfl⟩
    have hmk := make_bool v.size hv W0'
    rw [hW1] at hmk
    have hR1 : LRow W1 W0'.heap.size v.size (fun _ => false) := by rw [← hW1]; exact lrow_made _ _
    have hB1 : Below W0'.heap.size W0' W1 := by rw [← hW1]; exact (Below.refl _ _).alloc (Nat.le_refl _) _
    have hP1 : PatB W1 w.heap.size i a l.length c f := hI0.out.1.below hB1
    have n0 : Hid (w.heap.size < W0'.heap.size) := (Array.getElem?_eq_some_iff.1 hI0.out.1).1
    have e1 := World.rowIs.cell hR1 (i := i.size) (by omega)
    have e2 := World.rowIs.frozen hR1 i.size
    obtain ⟨⟨d0, y0⟩, ⟨d1, y1⟩, ⟨d2, y2⟩⟩ := hP1.cells
    obtain ⟨W2, hW2⟩ : ∃ W2, W1.setCell ⟨W0'.heap.size, i.size, none⟩ (.bool true) = W2 := ⟨_, rfl⟩
    have hI2 : Hid (LRow W2 W0'.heap.size v.size (fun t => if t = i.size then true else false) ∧ w.heap.size < W0'.heap.size ∧ PatB W2 w.heap.size i a l.length c f ∧ Below w.heap.size w W2) := by
      refine ⟨by rw [← hW2]; exact hR1.set i.size, n0.out, ?_, ?_⟩
      · unfold PatB
        rw [← hW2, Below.heap_setCell _ _ _ _ (by show w.heap.size ≠ W0'.heap.size; have := n0.out; omega)]
        exact hP1
      · rw [← hW2]
        exact Below.setCell (hI0.out.2.trans (hB1.mono hI0.out.2.size)) (by show w.heap.size ≤ W0'.heap.size; have := n0.out; omega) _
    have i0 : (0 : Int) ≤ (i.size : Int) := Int.natCast_nonneg _
    have i1 : (i.size : Int) < (v.size : Int) + 1 := by omega
    clear hR1 hB1 hP1 hst
    go_wp2_with fail
    clear e1 e2 d0 d1 d2 y0 y1 y2 c0 c1 c2 z0 z1 z2 hmk hW1 hI0 hW0 hW2
    go_loopw [5, 6] (fun ev iv wr => ∃ (k g : Nat) (e : Nat → Bool), k ≤ l.length ∧ ev = .slice (some ⟨g, 0, none⟩) (v.size + 1) (v.size + 1) ∧ iv = .int .i64 (k : Int) ∧ Hid (LRow wr g v.size e ∧ w.heap.size < g ∧ PatB wr w.heap.size i a l.length c f ∧ Below w.heap.size w wr) ∧ Hid (∀ t, t ≤ v.size → (e t = true ↔ (l.take k).foldl (nxt v.data.toList) (fun j => j = i.data.toList.length) t))) (fun _ iv _ => l.length - (intOf iv).toNat)
    case atStart =>
      refine ⟨0, _, _, Nat.zero_le _, rfl, rfl, hI2, fun t ht => ?_⟩
      show (if t = i.size then true else false) = true ↔ t = i.data.toList.length
      rw [size_l]
      by_cases q : t = i.size
      · rw [if_pos q]; exact ⟨fun _ => q, fun _ => rfl⟩
      · rw [if_neg q]; exact ⟨fun h => (by cases h), fun h => absurd h q⟩
    case round =>
      obtain ⟨k, g, e, hk, rfl, rfl, hI, hE⟩ := hrel
      clear hI2
      obtain ⟨⟨d0, y0⟩, ⟨d1, y1⟩, ⟨d2, y2⟩⟩ := hI.out.2.2.1.cells
      by_cases hlt : k < l.length
      · obtain ⟨b, off, hab, hc⟩ := (hr'.out.below hI.out.2.2.2) k hlt
        obtain ⟨p, hp⟩ : ∃ p, S l[k] = p := ⟨_, rfl⟩
        have hpl : p.data.toList = l[k] := by rw [← hp, S_l]
        have hps : p.size ≤ 4194304 := by rw [← size_l, hpl]; exact hls'.out _ (List.getElem_mem hlt)
        have hcl : Hid (w.cell? ⟨b, off + k, none⟩ = some (.string p)) := by
          obtain ⟨b', off', hab', hc'⟩ := hr'.out k hlt
          rw [hab] at hab'
          injection hab' with hab'
          injection hab' with h1 h2
          subst h1 h2
          rw [← hp]
          exact hc'
        obtain ⟨W3, hW3⟩ : ∃ W3, wr.alloc (.cells (madeCells #[.bool false] (v.size + 1)) 4) = W3 := ⟨_, rfl⟩
        have hmk := make_bool v.size hv wr
        rw [hW3] at hmk
        have hB3 : Below wr.heap.size wr W3 := by rw [← hW3]; exact (Below.refl _ _).alloc (Nat.le_refl _) _
        have hI3 : Hid (LRow W3 g v.size e ∧ LRow W3 wr.heap.size v.size (fun _ => false) ∧ PatB W3 w.heap.size i a l.length c f ∧ Below w.heap.size w W3) := ⟨hI.out.1.below (hB3.block g (World.rowIs.lt hI.out.1)), by rw [← hW3]; exact lrow_made _ _, hI.out.2.2.1.below hB3, hI.out.2.2.2.trans (hB3.mono hI.out.2.2.2.size)⟩
        have hg2 : Hid (g < wr.heap.size ∧ w.heap.size < g) := ⟨World.rowIs.lt hI.out.1, hI.out.2.1⟩
        have hE' : Hid (∀ t, t ≤ v.size → (e t = true ↔ (l.take k).foldl (nxt v.data.toList) (fun j => j = i.data.toList.length) t)) := hE
        have hlt' : Hid (k < l.length) := hlt
        have hpl' : Hid (∀ h : k < l.length, l[k]'h = p.data.toList) := fun _ => hpl.symm
        have k0 : (0 : Int) ≤ (k : Int) := Int.natCast_nonneg _
        have k1 : (k : Int) < (l.length : Int) := Int.ofNat_lt.2 hlt
        obtain ⟨G, hG⟩ : ∃ G, wr.heap.size = G := ⟨_, rfl⟩
        rw [hG] at hmk hI3 hg2
        clear hB3 hW3 hpl hp hc hG
        subst hab
        clear hlt
        go_wp2_with fail
        clear d0 d1 d2 y0 y1 y2 hmk
        go_loopw [8, 9] (fun fv jv ws => ∃ (j : Nat) (fr : Bool) (e2 : Nat → Bool), j ≤ v.size + 1 ∧ fv = .bool fr ∧ jv = .int .i64 (j : Int) ∧ Hid (LRow ws g v.size e ∧ LRow ws G v.size e2 ∧ PatB ws w.heap.size i (some ⟨b, off, none⟩) l.length c f ∧ Below w.heap.size w ws) ∧ Hid (Inn v.data.toList e e2 p.data.toList v.size j fr)) (fun _ jv _ => v.size + 1 - (intOf jv).toNat)
        case atStart => exact ⟨0, false, _, Nat.zero_le _, rfl, rfl, hI3, ⟨by simp, fun t _ => ⟨fun h => (by cases h), fun ⟨q, h, _⟩ => by omega⟩⟩⟩
        case round =>
          obtain ⟨j, fr, e2, hj, rfl, rfl, hJ, hN⟩ := hrel
          clear hI3
          have hfree := exists_step (e := e) (j := j)
          by_cases hjl : j ≤ v.size
          · have j0 : (0 : Int) ≤ (j : Int) := Int.natCast_nonneg _
            have j1 : (j : Int) ≤ (v.size : Int) := Int.ofNat_le.2 hjl
            have j2 : (j : Int) < (v.size : Int) + 1 := by omega
            have ce := World.rowIs.cell hJ.out.1 (i := j) (by omega)
            obtain ⟨⟨d0, y0⟩, ⟨d1, y1⟩, ⟨d2, y2⟩⟩ := hJ.out.2.2.1.cells
            have hcs : wr.cell? ⟨b, off + k, none⟩ = some (.string p) := (hJ.out.2.2.2.cell (World.block_lt_of_cell? w _ hcl.out)).trans hcl.out
            have hSt := stands_any v p j wr hv hps (by omega)
            obtain ⟨ej, hej⟩ : ∃ b, e j = b := ⟨_, rfl⟩
            rw [hej] at ce
            have hsb : Hid (stB v.data.toList j p.data.toList = true ↔ St v.data.toList j p.data.toList) := stB_iff _ _ _
            obtain ⟨sb, hsb2⟩ : ∃ b, stB v.data.toList j p.data.toList = b := ⟨_, rfl⟩
            rw [hsb2] at hSt hsb
            clear hsb2
            cases fr with
            | true =>
              have hfr : ∃ r, r < j + 1 ∧ e r = true := hfree.2 (Or.inl (hN.out.1.1 rfl))
              have hfr' : Hid (∃ r, r < j + 1 ∧ e r = true) := hfr
              clear hfr hfree hej
              cases sb with
              | true =>
                have hS' : Hid (St v.data.toList j p.data.toList) := hsb.out.1 rfl
                have hroom : j + p.size ≤ v.size := by have h := hS'.out.1; rw [size_l, size_l] at h; exact h
                have r1 : (j : Int) + (p.size : Int) < (v.size : Int) + 1 := by omega
                have r2 : (0 : Int) ≤ (j : Int) + (p.size : Int) := by omega
                have cn := World.rowIs.cell hJ.out.2.1 (i := j + p.size) (by omega)
                have cz := World.rowIs.frozen hJ.out.2.1 (j + p.size)
                have hset : Hid (LRow (wr.setCell ⟨G, j + p.size, none⟩ (.bool true)) g v.size e ∧ LRow (wr.setCell ⟨G, j + p.size, none⟩ (.bool true)) G v.size (fun t => if t = j + p.size then true else e2 t) ∧ PatB (wr.setCell ⟨G, j + p.size, none⟩ (.bool true)) w.heap.size i (some ⟨b, off, none⟩) l.length c f ∧ Below w.heap.size w (wr.setCell ⟨G, j + p.size, none⟩ (.bool true))) := by
                  have hgg := hg2.out
                  refine ⟨hJ.out.1.below (Below.heap_setCell _ _ _ _ (by show g ≠ G; omega)), hJ.out.2.1.set _, ?_, Below.setCell hJ.out.2.2.2 (by show w.heap.size ≤ G; omega) _⟩
                  unfold PatB
                  rw [Below.heap_setCell _ _ _ _ (by show w.heap.size ≠ G; omega)]
                  exact hJ.out.2.2.1
                have hN' : Hid (Inn v.data.toList e (fun t => if t = j + p.size then true else e2 t) p.data.toList v.size (j + 1) true) := by
                  refine ⟨⟨fun _ => hfr'.out, fun _ => rfl⟩, fun t ht => ?_⟩
                  show (if t = j + p.size then true else e2 t) = true ↔ _
                  rw [nx_set _ _ _ _ _ hfr'.out hS'.out, size_l, ← hN.out.2 t ht]
                  by_cases q : t = j + p.size
                  · rw [if_pos q]; exact ⟨fun _ => Or.inl q, fun _ => rfl⟩
                  · rw [if_neg q]; exact ⟨fun h => Or.inr h, fun h => h.resolve_left q⟩
                clear hN hsb
                go_wp2_with fail
                refine hSt.mono ?_
                rintro e' ws' ⟨rfl, hws⟩
                subst hws
                clear hSt
                go_wp2_with fail
                go_roundw
                case rel => exact ⟨j + 1, true, _, by omega, rfl, by simp, hset, hN'⟩
                case measure => simp [intOf]; omega
              | false =>
                have hN' : Hid (Inn v.data.toList e e2 p.data.toList v.size (j + 1) true) := by
                  refine ⟨⟨fun _ => hfr'.out, fun _ => rfl⟩, fun t ht => ?_⟩
                  rw [nx_skip _ _ _ _ _ (fun h => by have := hsb.out.2 h.2; cases this)]
                  exact hN.out.2 t ht
                clear hN hsb
                go_wp2_with fail
                refine hSt.mono ?_
                rintro e' ws' ⟨rfl, hws⟩
                subst hws
                clear hSt
                go_wp2_with fail
                go_roundw
                case rel => exact ⟨j + 1, true, e2, by omega, rfl, by simp, hJ, hN'⟩
                case measure => simp [intOf]; omega
            | false =>
              cases ej with
              | true =>
                have hfr : ∃ r, r < j + 1 ∧ e r = true := hfree.2 (Or.inr hej)
                have hfr' : Hid (∃ r, r < j + 1 ∧ e r = true) := hfr
                clear hfr hfree hej
                cases sb with
                | true =>
                  have hS' : Hid (St v.data.toList j p.data.toList) := hsb.out.1 rfl
                  have hroom : j + p.size ≤ v.size := by have h := hS'.out.1; rw [size_l, size_l] at h; exact h
                  have r1 : (j : Int) + (p.size : Int) < (v.size : Int) + 1 := by omega
                  have r2 : (0 : Int) ≤ (j : Int) + (p.size : Int) := by omega
                  have cn := World.rowIs.cell hJ.out.2.1 (i := j + p.size) (by omega)
                  have cz := World.rowIs.frozen hJ.out.2.1 (j + p.size)
                  have hset : Hid (LRow (wr.setCell ⟨G, j + p.size, none⟩ (.bool true)) g v.size e ∧ LRow (wr.setCell ⟨G, j + p.size, none⟩ (.bool true)) G v.size (fun t => if t = j + p.size then true else e2 t) ∧ PatB (wr.setCell ⟨G, j + p.size, none⟩ (.bool true)) w.heap.size i (some ⟨b, off, none⟩) l.length c f ∧ Below w.heap.size w (wr.setCell ⟨G, j + p.size, none⟩ (.bool true))) := by
                    have hgg := hg2.out
                    refine ⟨hJ.out.1.below (Below.heap_setCell _ _ _ _ (by show g ≠ G; omega)), hJ.out.2.1.set _, ?_, Below.setCell hJ.out.2.2.2 (by show w.heap.size ≤ G; omega) _⟩
                    unfold PatB
                    rw [Below.heap_setCell _ _ _ _ (by show w.heap.size ≠ G; omega)]
                    exact hJ.out.2.2.1
                  have hN' : Hid (Inn v.data.toList e (fun t => if t = j + p.size then true else e2 t) p.data.toList v.size (j + 1) true) := by
                    refine ⟨⟨fun _ => hfr'.out, fun _ => rfl⟩, fun t ht => ?_⟩
                    show (if t = j + p.size then true else e2 t) = true ↔ _
                    rw [nx_set _ _ _ _ _ hfr'.out hS'.out, size_l, ← hN.out.2 t ht]
                    by_cases q : t = j + p.size
                    · rw [if_pos q]; exact ⟨fun _ => Or.inl q, fun _ => rfl⟩
                    · rw [if_neg q]; exact ⟨fun h => Or.inr h, fun h => h.resolve_left q⟩
                  clear hN hsb
                  go_wp2_with fail
                  refine hSt.mono ?_
                  rintro e' ws' ⟨rfl, hws⟩
                  subst hws
                  clear hSt
                  go_wp2_with fail
                  go_roundw
                  case rel => exact ⟨j + 1, true, _, by omega, rfl, by simp, hset, hN'⟩
                  case measure => simp [intOf]; omega
                | false =>
                  have hN' : Hid (Inn v.data.toList e e2 p.data.toList v.size (j + 1) true) := by
                    refine ⟨⟨fun _ => hfr'.out, fun _ => rfl⟩, fun t ht => ?_⟩
                    rw [nx_skip _ _ _ _ _ (fun h => by have := hsb.out.2 h.2; cases this)]
                    exact hN.out.2 t ht
                  clear hN hsb
                  go_wp2_with fail
                  refine hSt.mono ?_
                  rintro e' ws' ⟨rfl, hws⟩
                  subst hws
                  clear hSt
                  go_wp2_with fail
                  go_roundw
                  case rel => exact ⟨j + 1, true, e2, by omega, rfl, by simp, hJ, hN'⟩
                  case measure => simp [intOf]; omega
              | false =>
                have hnf : Hid (¬ ∃ r, r < j + 1 ∧ e r = true) := fun h => by
                  rcases hfree.1 h with h | h
                  · have := hN.out.1.2 h
                    cases this
                  · rw [hej] at h
                    cases h
                have hN' : Hid (Inn v.data.toList e e2 p.data.toList v.size (j + 1) false) := by
                  refine ⟨⟨fun h => (by cases h), fun h => absurd h hnf.out⟩, fun t ht => ?_⟩
                  rw [nx_skip _ _ _ _ _ (fun h => hnf.out h.1)]
                  exact hN.out.2 t ht
                clear hN hsb hfree hej hSt
                go_wp2_with fail
                go_roundw
                case rel => exact ⟨j + 1, false, e2, by omega, rfl, by simp, hJ, hN'⟩
                case measure => simp [intOf]; omega
          · have hjv : j = v.size + 1 := by omega
            subst hjv
            have j1 : ¬ ((v.size : Int) + 1 ≤ (v.size : Int)) := by omega
            have hfin : Hid (∀ t, t ≤ v.size → (e2 t = true ↔ (l.take (k + 1)).foldl (nxt v.data.toList) (fun j => j = i.data.toList.length) t)) := fun t ht => by
              rw [hN.out.2 t ht, List.take_succ_eq_append_getElem hlt'.out, List.foldl_append, List.foldl_cons, List.foldl_nil, hpl'.out hlt'.out]
              have hnx := nx_end v.data.toList e p.data.toList _ (fun t ht => hE'.out t (by rw [size_l] at ht; exact ht)) t
              rw [size_l] at hnx
              exact hnx
            clear hN hfree
            go_wp2_with fail
            go_roundw
            case rel => exact ⟨k + 1, G, e2, hlt'.out, rfl, by simp, ⟨hJ.out.2.1, by have := hg2.out; omega, hJ.out.2.2.1, hJ.out.2.2.2⟩, hfin⟩
            case measure => have := hlt'.out; simp [intOf]; omega
      · have hke : k = l.length := by omega
        subst hke
        rw [List.take_length] at hE
        have k1 : ¬ (l.length : Int) < (l.length : Int) := by omega
        have hEl : Hid (∀ t, t ≤ v.size → (e t = true ↔ l.foldl (nxt v.data.toList) (fun j => j = i.data.toList.length) t)) := hE
        clear hE
        by_cases hfv : f.size ≤ v.size
        · have hSt : Hid (Calls Try.prog 13 #[.string v, .int .i64 ((v.size : Int) - (f.size : Int)), .string f] wr fun e w' => e = .returned (.bool (stB v.data.toList (v.size - f.size) f.data.toList)) ∧ w' = wr) := by
            have h := stands_any v f (v.size - f.size) wr hv hf (by omega)
            rw [Int.ofNat_sub hfv] at h
            exact h
          by_cases hsf : St v.data.toList (v.size - f.size) f.data.toList
          · rw [(stB_iff _ _ _).2 hsf] at hSt
            have hsf' : Hid (St v.data.toList (v.size - f.size) f.data.toList) := hsf
            clear hsf
            go_wp2_with fail
            refine hSt.out.mono ?_
            rintro e' wr' ⟨rfl, hwr'⟩
            subst hwr'
            clear hSt d0 d1 d2 y0 y1 y2
            go_wp2_with fail
            go_loopw [11] (fun jv ws => ∃ j : Nat, j ≤ v.size - f.size + 1 ∧ jv = .int .i64 (j : Int) ∧ Hid (∀ q, q < j → e q = false) ∧ wr' = ws) (fun jv _ => v.size + 1 - (intOf jv).toNat)
            case atStart => exact ⟨0, Nat.zero_le _, rfl, fun q hq => by omega, rfl⟩
            case round =>
              obtain ⟨j, hj, rfl, hno, rfl⟩ := hrel
              by_cases hjl : j ≤ v.size - f.size
              · have j0 : (0 : Int) ≤ (j : Int) := Int.natCast_nonneg _
                have j1 : (j : Int) ≤ (v.size : Int) - (f.size : Int) := by omega
                have j2 : (j : Int) < (v.size : Int) + 1 := by omega
                have ce := World.rowIs.cell hI.out.1 (i := j) (by omega)
                obtain ⟨ej, hej⟩ : ∃ b, e j = b := ⟨_, rfl⟩
                rw [hej] at ce
                have hej' : Hid (e j = ej) := hej
                clear hej
                cases ej with
                | true =>
                  go_wp2_with fail
                  go_ret
                  refine ⟨⟨true, rfl, fun _ => ?_, fun _ => rfl⟩, hI.out.2.2.2⟩
                  refine ⟨hst'.out, by rw [size_l, size_l]; exact hfv, by rw [size_l, size_l]; exact hsf'.out, j, by rw [size_l, size_l]; exact hjl, ?_⟩
                  exact (hEl.out j (by omega)).1 hej'.out
                | false =>
                  go_wp2_with fail
                  go_roundw
                  case rel =>
                    refine ⟨j + 1, by omega, by simp, fun q hq => ?_, by trivial⟩
                    rcases Nat.lt_or_ge q j with h | h
                    · exact hno.out q h
                    · have : q = j := by omega
                      subst this
                      exact hej'.out
                  case measure => simp [intOf]; omega
              · have j1 : ¬ (j : Int) ≤ (v.size : Int) - (f.size : Int) := by omega
                go_wp2_with fail
                go_ret
                refine ⟨⟨false, rfl, fun h => (by cases h), fun h => ?_⟩, hI.out.2.2.2⟩
                obtain ⟨_, _, _, q, hq, hEq⟩ := h
                rw [size_l, size_l] at hq
                have h1 := hno.out q (by omega)
                rw [(hEl.out q (by omega)).2 hEq] at h1
                cases h1
          · have hsb : stB v.data.toList (v.size - f.size) f.data.toList = false := by
              cases h : stB v.data.toList (v.size - f.size) f.data.toList with
              | false => rfl
              | true => exact absurd ((stB_iff _ _ _).1 h) hsf
            rw [hsb] at hSt
            have hsf' : Hid (¬ St v.data.toList (v.size - f.size) f.data.toList) := hsf
            clear hsf hsb
            go_wp2_with fail
            refine hSt.out.mono ?_
            rintro e' wr' ⟨rfl, hwr'⟩
            subst hwr'
            clear hSt d0 d1 d2 y0 y1 y2
            go_wp2_with fail
            go_ret
            refine ⟨⟨false, rfl, fun h => (by cases h), fun h => ?_⟩, hI.out.2.2.2⟩
            have h1 := h.2.2.1
            rw [size_l, size_l] at h1
            exact absurd h1 hsf'.out
        · have hSt : Hid (Calls Try.prog 13 #[.string v, .int .i64 ((v.size : Int) - (f.size : Int)), .string f] wr fun e w' => e = .returned (.bool false) ∧ w' = wr) := stands_neg v f _ wr (by omega)
          have hfv' : Hid (¬ f.size ≤ v.size) := hfv
          go_wp2_with fail
          refine hSt.out.mono ?_
          rintro e' wr' ⟨rfl, hwr'⟩
          subst hwr'
          clear hSt d0 d1 d2 y0 y1 y2
          go_wp2_with fail
          go_ret
          refine ⟨⟨false, rfl, fun h => (by cases h), fun h => ?_⟩, hI.out.2.2.2⟩
          have h1 := h.2.1
          rw [size_l, size_l] at h1
          exact absurd h1 hfv'.out
  · have hsb : stB v.data.toList 0 i.data.toList = false := by
      cases h : stB v.data.toList 0 i.data.toList with
      | false => rfl
      | true => exact absurd ((stB_iff _ _ _).1 h) hst
    rw [hsb]
    have hst' : Hid (¬ St v.data.toList 0 i.data.toList) := hst
    clear hst hsb
    go_wp2_with fail
    go_ret
    exact ⟨⟨false, rfl, fun h => (by cases h), fun h => absurd h.1 hst'.out⟩, hI0.out.2⟩
end Go.Proofs.Ytohkmjaaigaemab
