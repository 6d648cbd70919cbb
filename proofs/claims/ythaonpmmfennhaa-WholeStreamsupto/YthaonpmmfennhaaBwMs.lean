import Derived.Test.YthaonpmmfennhaaBwC
import Derived.Test.YthaonpmmfennhaaBhSpW
import Derived.BigQuiet
namespace Go.Proofs.Ythaonpmmfennhaa
open Go.RowKit
set_option linter.unusedVariables false

theorem info_int : (Try.prog.info? 3).map (fun i => (i.zero, i.size, i.bytes)) = some (some (.int .i64 0), 1, 8) := by kernel_rfl
theorem make_ints (n : Nat) (hn : n ≤ 67108864) (W : World) : (Instr.makeSlice 23 (.int .i64 (n : Int)) (.int .i64 (n : Int))).run Try.prog W = .ok (.slice (some ⟨W.heap.size, 0, none⟩) n n) (W.alloc (.cells (madeCells #[.int .i64 0] n) 3)) := by
  obtain ⟨i0, hi, hz0, hz1, hz2⟩ := info_parts info_int
  have hr := run_make (P := Try.prog) W 23 3 i0 (.int .i64 0) Try.underlying23 hi hz0 .i64 .i64 (n : Int) (n : Int) (by omega) (Int.le_refl _) (by rw [hz2]; omega) (by omega)
  simp only [Int.toNat_natCast, hz1, Nat.mul_one] at hr
  exact hr
/-- The lengths that are known: those from K on. -/
def LenB (W : World) (g n K : Nat) (Ls : Nat → Nat) : Prop := ∃ cs, Box W g 3 cs ∧ cs.size = n ∧ (∀ j, j < n → ∃ x, cs[j]? = some (.int .i64 x)) ∧ ∀ j, K ≤ j → j < n → cs[j]? = some (.int .i64 (Ls j : Int))
theorem LenB.of {W W' : World} {g n K : Nat} {Ls : Nat → Nat} (h : LenB W g n K Ls) (e : W'.heap[g]? = W.heap[g]?) : LenB W' g n K Ls := by
  obtain ⟨cs, h1, h2⟩ := h
  exact ⟨cs, h1.of e, h2⟩
theorem LenB.lt {W : World} {g n K : Nat} {Ls : Nat → Nat} (h : LenB W g n K Ls) : g < W.heap.size := by
  obtain ⟨cs, h1, _⟩ := h
  exact h1.lt
theorem LenB.any {W : World} {g n K : Nat} {Ls : Nat → Nat} (h : LenB W g n K Ls) (j : Nat) (hj : j < n) : ∃ x, W.cell? ⟨g, j, none⟩ = some (.int .i64 x) ∧ W.frozen? ⟨g, j, none⟩ = false := by
  obtain ⟨cs, h1, h2, h3, _⟩ := h
  obtain ⟨x, hx⟩ := h3 j hj
  exact ⟨x, at_of h1 hx⟩
theorem LenB.at {W : World} {g n K : Nat} {Ls : Nat → Nat} (h : LenB W g n K Ls) (j : Nat) (hk : K ≤ j) (hj : j < n) : W.cell? ⟨g, j, none⟩ = some (.int .i64 (Ls j : Int)) := by
  obtain ⟨cs, h1, h2, _, h4⟩ := h
  exact (at_of h1 (h4 j hk hj)).1
def updL (Ls : Nat → Nat) (i x : Nat) : Nat → Nat := fun j => if j = i then x else Ls j
theorem LenB.set {W : World} {g n i : Nat} {Ls : Nat → Nat} (h : LenB W g n (i + 1) Ls) (hi : i < n) (x : Nat) : LenB (W.setCell ⟨g, i, none⟩ (.int .i64 (x : Int))) g n i (updL Ls i x) := by
  obtain ⟨cs, h1, h2, h3, h4⟩ := h
  have hsz : i < cs.size := by omega
  refine ⟨_, h1.set i _, by rw [Array.size_setIfInBounds]; exact h2, fun j hj => ?_, fun j hk hj => ?_⟩
  · by_cases e : j = i
    · subst e; exact ⟨_, by rw [Array.getElem?_setIfInBounds_self_of_lt hsz]⟩
    · obtain ⟨y, hy⟩ := h3 j hj
      exact ⟨y, by rw [Array.getElem?_setIfInBounds_ne (fun q => e q.symm)]; exact hy⟩
  · unfold updL
    by_cases e : j = i
    · subst e; rw [if_pos rfl, Array.getElem?_setIfInBounds_self_of_lt hsz]
    · rw [if_neg e, Array.getElem?_setIfInBounds_ne (fun q => e q.symm)]; exact h4 j (by omega) hj
theorem len_new (w : World) (n : Nat) : LenB (w.alloc (.cells (madeCells #[.int .i64 0] n) 3)) w.heap.size n n (fun _ => 0) := by
  refine ⟨_, Box.new _ _ _, by rw [size_madeCells], fun j hj => ⟨0, ?_⟩, fun j h1 h2 => by omega⟩
  simp [madeCells, hj, Nat.mod_one]
/-- What measuring has in hand. -/
def MsR (w W : World) (n K : Nat) (σ : List Nat) (Ls : Nat → Nat) : Prop := NumB W (w.heap.size + 1) σ ∧ LenB W w.heap.size n K Ls ∧ Below w.heap.size w W
theorem MsR.drewN {w W : World} {n K : Nat} {σ : List Nat} {Ls : Nat → Nat} (h : MsR w W n K σ Ls) (q : Nat) : MsR w (W.drewN q) n K σ Ls := ⟨h.1.of rfl, h.2.1.of rfl, belowN h.2.2 q⟩
theorem MsR.num {w W : World} {n K : Nat} {σ : List Nat} {Ls : Nat → Nat} (h : MsR w W n K σ Ls) (hl : σ.length = 66) (e : Nat) (he : e < 66) (v : Nat) : MsR w (W.setCell ⟨w.heap.size + 1, e, none⟩ (.int .i64 (v : Int))) n K (σ.set e v) Ls :=
  ⟨h.1.set hl e he v, h.2.1.of (Below.heap_setCell _ _ _ _ (by show w.heap.size ≠ w.heap.size + 1; omega)), h.2.2.setCell (Nat.le_succ _) _⟩
theorem MsR.len {w W : World} {n i : Nat} {σ : List Nat} {Ls : Nat → Nat} (h : MsR w W n (i + 1) σ Ls) (hi : i < n) (x : Nat) : MsR w (W.setCell ⟨w.heap.size, i, none⟩ (.int .i64 (x : Int))) n i σ (updL Ls i x) :=
  ⟨h.1.of (Below.heap_setCell _ _ _ _ (by show w.heap.size + 1 ≠ w.heap.size; omega)), h.2.1.set hi x, h.2.2.setCell (Nat.le_refl _) _⟩
theorem set_same (σ : List Nat) (i : Nat) (h : σ.getD i 0 = 0) (hi : i < σ.length) : σ.set i 0 = σ := by
  apply List.ext_getElem?
  intro j
  by_cases e : i = j
  · subst e
    rw [List.getElem?_set_self hi]
    simp only [List.getD, List.getElem?_eq_getElem hi, Option.getD_some] at h
    rw [List.getElem?_eq_getElem hi, h]
  · rw [List.getElem?_set_ne e]
/-- The length that measure reckons is the one that is said. -/
theorem ms_len {n i : Nat} {D C T : Nat → Int} {M : Nat → Bool} {B : Nat → ByteArray} {σ : List Nat} {H : Nat → List UInt8} (hi : i < n) (hI : SpI n (i + 1) D C T M B σ H) (hG : ∀ j, j < n → Good D C T M B j) (d : Nat) (hd : D i = (d : Int)) :
    (B i).size + σ.getD (d + 1) 0 = spL D M B σ i ∧ BhSpM.shut σ d (M i) = σ.set (d + 1) 0 := by
  obtain ⟨h1, h2, _⟩ := hI
  obtain ⟨g1, g2, g3, g4, g5, g6, g7, _⟩ := hG i hi
  have hdn : (D i).toNat = d := by omega
  have hm : M i = false → σ.getD (d + 1) 0 = 0 := fun hM => h2 (d + 1) (by
    by_cases e : i + 1 = n
    · exact Or.inl e
    · have hh := (hG (i + 1) (by omega)).2.2.2.2.2.2.2.2 i rfl
      refine Or.inr ⟨by omega, ?_⟩
      by_cases q : D i < D (i + 1)
      · rw [hh.2.2 q] at hM; cases hM
      · omega)
  cases hM : M i with
  | true =>
    refine ⟨?_, rfl⟩
    unfold spL BhSpM.len
    rw [hM, if_pos rfl, hdn, empty_size (g7 hM), Nat.zero_add]
  | false =>
    refine ⟨?_, ?_⟩
    · unfold spL BhSpM.len
      rw [hM, hm hM]
      rfl
    · show σ = _
      rw [set_same σ (d + 1) (hm hM) (by omega)]
/-- The header of j is the shortest form of its length. -/
def HSh (C T : Nat → Int) (M : Nat → Bool) (Ls : Nat → Nat) (H : Nat → List UInt8) (j : Nat) : Prop := H j = hdrL (C j).toNat (M j) (T j).toNat (Ls j) (ll (Ls j)) ∧ Ls j ≤ 67108864
theorem ms_step {n i : Nat} {D C T : Nat → Int} {M : Nat → Bool} {B : Nat → ByteArray} {σ : List Nat} {H : Nat → List UInt8} {Ls : Nat → Nat} (hi : i < n) (hI : SpI n (i + 1) D C T M B σ H) (hG : ∀ j, j < n → Good D C T M B j) (hs : bsum B n ≤ 67108864) (hH : ∀ j, i + 1 ≤ j → j < n → HSh C T M Ls H j) (d : Nat) (hd : D i = (d : Int)) (L : Nat) (hL : spL D M B σ i = L) :
    ∃ H', SpI n i D C T M B ((σ.set (d + 1) 0).set d ((σ.set (d + 1) 0).getD d 0 + (2 + ll L) + L)) H' ∧ ∀ j, i ≤ j → j < n → HSh C T M (updL Ls i L) H' j := by
  have hLe := (spL_le hi hI).1
  obtain ⟨e1, e2⟩ := ms_len hi hI hG d hd
  have hdn : (D i).toNat = d := by omega
  have h := spI_step hi hI hG (ll L) (ll_le L) (by rw [hL]; exact says_wide L (by omega))
  have hσ : spS D M B σ i (ll L) = (σ.set (d + 1) 0).set d ((σ.set (d + 1) 0).getD d 0 + (2 + ll L) + L) := by
    unfold spS BhSpM.stp
    rw [hdn, e2]
    have : BhSpM.len σ d (M i) (B i).size = L := by rw [← hL]; unfold spL; rw [hdn]
    rw [this]
  rw [hσ, hL] at h
  refine ⟨_, h, fun j h1 h2 => ?_⟩
  unfold HSh updH updL
  rw [hL] at hLe
  by_cases e : j = i
  · subst e; rw [if_pos rfl, if_pos rfl]; exact ⟨rfl, by omega⟩
  · rw [if_neg e, if_neg e]; exact hH j (by omega) h2
/-- What measure answers. -/
def MeR (e : Ending) (w w' : World) (n : Nat) (D C T : Nat → Int) (M : Nat → Bool) (B : Nat → ByteArray) : Prop :=
  ∃ (Ls : Nat → Nat) (H : Nat → List UInt8) (σ : List Nat), e = .returned (.tuple #[.slice (some ⟨w.heap.size, 0, none⟩) n n, .int .i64 (σ.getD 1 0 : Int), .int .i64 0]) ∧ SpI n 0 D C T M B σ H ∧ (∀ j, j < n → HSh C T M Ls H j) ∧ LenB w' w.heap.size n 0 Ls
theorem wr_ge (a : Nat) (h : a ≤ 4294967296) : wrap64 (a : Int) = (a : Int) ∧ IntKind.i64.wrap (a : Int) = (a : Int) := by
  rw [IntKind.wrap_i64]
  unfold wrap64
  omega
theorem wr_one (d : Nat) (h : d ≤ 4294967295) : wrap64 ((d : Int) + 1) = ((d + 1 : Nat) : Int) ∧ IntKind.i64.wrap ((d : Int) + 1) = ((d + 1 : Nat) : Int) := by
  rw [IntKind.wrap_i64]
  unfold wrap64
  omega
theorem wr_sum (a b c : Nat) (h : a + b = c) (hc : c ≤ 4294967296) : wrap64 ((a : Int) + (b : Int)) = (c : Int) ∧ IntKind.i64.wrap ((a : Int) + (b : Int)) = (c : Int) := by
  rw [IntKind.wrap_i64]
  unfold wrap64
  omega
set_option maxRecDepth 100000 in
set_option maxHeartbeats 4000000 in
theorem measure_any (a : Option Addr) (n c : Nat) (D C T : Nat → Int) (M : Nat → Bool) (B : Nat → ByteArray) (w : World) (hn : IsNodes w a n D C T M B) (hG : ∀ i, i < n → Good D C T M B i) (h0 : 0 < n) (hs : bsum B n ≤ 67108864) :
    Calls Try.prog 30 #[.slice a n c] w fun e w' => MeR e w w' n D C T M B ∧ Below w.heap.size w w' := by
  have hnn : n ≤ 67108864 := by have := bsum_six B n; omega
  have hmk := make_ints n hnn
  have HG : Hid (IsNodes w a n D C T M B ∧ (∀ i, i < n → Good D C T M B i) ∧ 0 < n ∧ bsum B n ≤ 67108864 ∧ n ≤ 67108864) := ⟨hn, hG, h0, hs, hnn⟩
  have hw1 : wrap64 ((n : Int) - 1) = (n : Int) - 1 := by unfold wrap64; omega
  clear hn hG hs h0
  go_enter Try.func30, Try.ntmps30
  go_wp2_with fail
  go_loopw [2, 6] (fun lv iv wr => ∃ (K : Nat) (σ : List Nat) (H : Nat → List UInt8) (Ls : Nat → Nat), K ≤ n ∧ lv = .slice (some ⟨w.heap.size, 0, none⟩) n n ∧ iv = .int .i64 ((K : Int) - 1) ∧ Hid (SpI n K D C T M B σ H ∧ (∀ j, K ≤ j → j < n → HSh C T M Ls H j) ∧ MsR w wr n K σ Ls)) (fun _ iv _ => (intOf iv + 1).toNat)
  case atStart =>
    refine ⟨n, _, _, (fun _ => 0), Nat.le_refl _, rfl, by go_num, ⟨spI_start n HG.out.2.2.1 D C T M B, fun j h1 h2 => by omega, ?_, ?_, ?_⟩⟩
    · have := num_new (w.alloc (.cells (madeCells #[.int .i64 0] n) 3))
      simpa using this
    · exact (len_new w n).of (Below.heap_alloc _ _ _ (by simp))
    · exact ((Below.refl _ _).alloc (Nat.le_refl _) _).alloc (by simp) _
  case round =>
    obtain ⟨K, σ, H, Ls, hK, rfl, rfl, HI⟩ := hrel
    clear hw1 hmk
    cases K with
    | zero =>
      have ez : (((0 : Nat) : Int) - 1) = -1 := by omega
      rw [ez]
      have hfin : Hid (∀ q, MeR (.returned (.tuple #[.slice (some ⟨w.heap.size, 0, none⟩) n n, .int .i64 (σ.getD 1 0 : Int), .int .i64 0])) w (wr.drewN q) n D C T M B ∧ Below w.heap.size w (wr.drewN q)) := fun q => by
        have h := HI.out.2.2.drewN q
        exact ⟨⟨Ls, H, σ, rfl, HI.out.1, fun j hj => HI.out.2.1 j (Nat.zero_le _) hj, h.2.1⟩, h.2.2⟩
      obtain ⟨y1, y2⟩ := HI.out.2.2.1.at 1 (by decide)
      clear HI HG
      go_wp2_with fail
      go_quiet (fail)
      go_wp2_with fail
      refine bodyPost_ret_by (v := .tuple #[.slice (some ⟨w.heap.size, 0, none⟩) n n, .int .i64 (σ.getD 1 0 : Int), .int .i64 0]) (by simp [results, Try.results30]) rfl (hfin.out _)
    | succ i =>
      have i0 : (0 : Int) ≤ (i : Int) := Int.natCast_nonneg _
      have i1 : (i : Int) < (n : Int) := Int.ofNat_lt.2 hK
      have ei : (((i + 1 : Nat) : Int) - 1) = (i : Int) := by omega
      rw [ei]
      obtain ⟨b, off, rfl, c0, c1, c2, c3, c4⟩ := (HG.out.1.below HI.out.2.2.2.2) i hK
      obtain ⟨gd1, gd2, gd3, gd4, gd5, gd6, _⟩ := HG.out.2.1 i hK
      have hLe := spL_le hK HI.out.1
      have hsb := HG.out.2.2.2.1
      have hbl : Hid (b < wr.heap.size) := World.block_lt_of_cell? wr _ c0
      obtain ⟨d, hd⟩ : ∃ d : Nat, D i = (d : Int) := ⟨(D i).toNat, by omega⟩
      obtain ⟨e1, e2⟩ := ms_len hK HI.out.1 HG.out.2.1 d hd
      obtain ⟨L, hL⟩ : ∃ L, spL D M B σ i = L := ⟨_, rfl⟩
      obtain ⟨H', q1, q2⟩ := ms_step hK HI.out.1 HG.out.2.1 hsb HI.out.2.1 d hd L hL
      rw [hL] at e1 hLe
      have hL64 : L ≤ 67108864 := Nat.le_trans hLe.1 hsb
      have hσ : Hid (σ.length = 66) := HI.out.1.1
      obtain ⟨x, hx⟩ : ∃ x, σ.getD (d + 1) 0 = x := ⟨_, rfl⟩
      obtain ⟨y, hy⟩ : ∃ y, (σ.set (d + 1) 0).getD d 0 = y := ⟨_, rfl⟩
      have hy' : Hid ((σ.set (d + 1) 0).getD d 0 = y) := hy
      have hyb : y ≤ 67108864 := by
        rw [← hy, BhSpM.getD_set_other _ _ _ _ (by omega)]
        exact Nat.le_trans (hLe.2 d) hsb
      obtain ⟨s, hs⟩ : ∃ s, B i = s := ⟨_, rfl⟩
      rw [hs] at c4 e1
      rw [hd] at c0
      rw [hx] at e1
      have he64 : d ≤ 64 := by omega
      have wd : Hid _ := wr_one d (by omega)
      have wL : Hid _ := wr_sum s.size x L e1 (by omega)
      have w3 : Hid _ := wr_sum (2 + ll L) L (2 + ll L + L) rfl (by have := ll_le L; omega)
      have w4 : Hid _ := wr_sum y (2 + ll L + L) (y + (2 + ll L + L)) rfl (by have := ll_le L; omega)
      have wp' : Hid _ := wr_pred i n hK HG.out.2.2.2.2
      have HM : Hid (MsR w wr n (i + 1) σ Ls) := HI.out.2.2
      have hin : Hid (i < n) := hK
      have HF : Hid (∀ W, MsR w W n i ((σ.set (d + 1) 0).set d (y + (2 + ll L + L))) (updL Ls i L) → SpI n i D C T M B ((σ.set (d + 1) 0).set d (y + (2 + ll L + L))) H' ∧ (∀ j, i ≤ j → j < n → HSh C T M (updL Ls i L) H' j) ∧ MsR w W n i ((σ.set (d + 1) 0).set d (y + (2 + ll L + L))) (updL Ls i L)) := fun W hW => by
        rw [hy, show y + (2 + ll L) + L = y + (2 + ll L + L) from by omega] at q1
        exact ⟨q1, q2, hW⟩
      have hT : ∀ W, Hid (Calls Try.prog 44 #[.int .i64 (L : Int)] W fun r w' => r = .returned (.bool false) ∧ W = w') := fun W => by
        have := tooLong_any L W
        rwa [decide_eq_false (by omega)] at this
      have hHS : ∀ W, Hid (Calls Try.prog 45 #[.int .i64 (L : Int)] W fun r w' => r = .returned (.int .i64 ((2 + ll L : Nat) : Int)) ∧ W = w') := fun W => headerSize_any L W
      have y2 := HI.out.2.2.1.at (d + 1) (by omega)
      rw [hx] at y2
      obtain ⟨y3, y4⟩ := y2
      have d0 : (0 : Int) ≤ (d : Int) := Int.natCast_nonneg _
      have d1 : (d : Int) < 66 := by omega
      have d2 : (0 : Int) ≤ ((d + 1 : Nat) : Int) := Int.natCast_nonneg _
      have d3 : ((d + 1 : Nat) : Int) < 66 := by omega
      have he66 : Hid (d + 1 < 66 ∧ d < 66) := ⟨by omega, by omega⟩
      obtain ⟨ds, hds⟩ : ∃ ds, ds = d + 1 := ⟨_, rfl⟩
      rw [← hds] at wd y3 y4 d2 d3
      have hds' : Hid (ds = d + 1) := hds
      obtain ⟨h2, hh2⟩ : ∃ h2, h2 = 2 + ll L := ⟨_, rfl⟩
      rw [← hh2] at hHS w3 w4 HF
      obtain ⟨z, hz⟩ : ∃ z, z = h2 + L := ⟨_, rfl⟩
      rw [← hz] at w3 w4 HF
      obtain ⟨uu, huu⟩ : ∃ uu, uu = y + z := ⟨_, rfl⟩
      rw [← huu] at w4 HF
      obtain ⟨wd1, wd2⟩ := wd.out
      obtain ⟨wL1, wL2⟩ := wL.out
      obtain ⟨w31, w32⟩ := w3.out
      obtain ⟨w41, w42⟩ := w4.out
      have wp := wp'.out
      clear wd wL w3 w4 wp'
      clear HI HG hK hLe hsb gd1 gd2 gd3 gd4 gd5 gd6 e1 e2 hL hL64 hx hy hyb hs hd he64 hds hh2 hz huu q1 q2 c1 c2 c3 hnn
      go_wp2_with fail
      go_quiet (fail)
      have HM2 : Hid (MsR w (wr.drewN nq) n (i + 1) σ Ls) := HM.out.drewN nq
      have z3 : (wr.drewN nq).cell? ⟨w.heap.size + 1, ds, none⟩ = some (.int .i64 (x : Int)) := y3
      have z4 : (wr.drewN nq).frozen? ⟨w.heap.size + 1, ds, none⟩ = false := y4
      clear HM y3 y4 c0 c4 hbl wL1 wL2
      obtain ⟨W2, hW2⟩ : ∃ W2, wr.drewN nq = W2 := ⟨_, rfl⟩
      rw [hW2] at HM2 z3 z4 ⊢
      clear hW2
      go_upto_region 11 with (go_at_call 44; refine (hT _).out.mono ?_; rintro r w5 ⟨rfl, rfl⟩)
      have HM3 : Hid (MsR w (W2.setCell ⟨w.heap.size + 1, ds, none⟩ (.int .i64 0)) n (i + 1) (σ.set (d + 1) 0) Ls) := by
        have := HM2.out.num hσ.out (d + 1) he66.out.1 0
        rw [← hds'.out] at this ⊢
        exact this
      clear HM2 z3 z4 hT
      obtain ⟨W3, hW3⟩ : ∃ W3, W2.setCell ⟨w.heap.size + 1, ds, none⟩ (.int .i64 0) = W3 := ⟨_, rfl⟩
      rw [hW3] at HM3 ⊢
      clear hW3
      obtain ⟨v1, v2⟩ := HM3.out.1.at d he66.out.2
      rw [hy'.out] at v1
      have v3 : W3.drew.cell? ⟨w.heap.size + 1, d, none⟩ = some (.int .i64 (y : Int)) := v1
      have v4 : W3.drew.frozen? ⟨w.heap.size + 1, d, none⟩ = false := v2
      go_region_with (go_at_call 45; refine (hHS _).out.mono ?_; rintro r w5 ⟨rfl, rfl⟩)
      all_goals
        have HM4 : Hid (MsR w (W3.drew.setCell ⟨w.heap.size + 1, d, none⟩ (.int .i64 (uu : Int))) n (i + 1) ((σ.set (d + 1) 0).set d uu) Ls) := (HM3.out.drewN 1).num (by rw [List.length_set]; exact hσ.out) d he66.out.2 uu
        have hsp : (W3.setCell ⟨w.heap.size + 1, d, none⟩ (.int .i64 (uu : Int))).drew = W3.drew.setCell ⟨w.heap.size + 1, d, none⟩ (.int .i64 (uu : Int)) := rfl
        try rw [hsp]
        obtain ⟨W5, hW5⟩ : ∃ W5, W3.drew.setCell ⟨w.heap.size + 1, d, none⟩ (.int .i64 (uu : Int)) = W5 := ⟨_, rfl⟩
        rw [hW5] at HM4 ⊢
        clear hsp hW5
        obtain ⟨xl, l1, l2⟩ := HM4.out.2.1.any i hin.out
        have HM5 : Hid (MsR w (W5.setCell ⟨w.heap.size, i, none⟩ (.int .i64 (L : Int))) n i ((σ.set (d + 1) 0).set d uu) (updL Ls i L)) := HM4.out.len hin.out L
        clear HM3 HM4 v1 v2 v3 v4 hHS w31 w32 w41 w42 wd1 wd2
        go_wp2_with fail
        refine ⟨⟨i, _, _, _, Nat.le_of_lt hin.out, rfl, by rw [wp], HF.out _ HM5.out⟩, ?_⟩
        rw [wp]
        show ((i : Int) - 1 + 1).toNat < ((i : Int) + 1).toNat
        omega
end Go.Proofs.Ythaonpmmfennhaa
