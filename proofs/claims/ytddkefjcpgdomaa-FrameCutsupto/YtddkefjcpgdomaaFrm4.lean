import Derived.Test.YtddkefjcpgdomaaFrm3
namespace Go.Proofs.Ytddkefjcpgdomaa
open Go.RowKit
open FrMath (Hdr lb bd within Out ends cut Cut)

set_option maxRecDepth 100000 in
set_option maxHeartbeats 1000000 in
theorem take_any (fb : Nat) (lim : Int) (p : Nat) (v : Value) (r : List UInt8) (h : Hdr) (w : World) (g off cap : Nat) (c : List UInt8) (m q : Nat)
    (hC : Cells w fb (frL lim p v h)) (hown : Own w (fb + 1) v r) (hm : m = if h.mi = 0 then h.sz - r.length else h.mi) (hq : q = if c.length < m then c.length else m) (q1 : 1 ≤ q)
    (hgl : g < w.heap.size) (hgf : g ≠ fb) (hgv : v.ownBlock ≠ some g) (hck : Chk w g off c) (hcc : c.length ≤ cap) (hcap : cap ≤ 9223372036854775807) (hsz : r.length + c.length ≤ 1073741824) (hhz : h.sz ≤ 4294967302) (hmz : h.mi ≤ 4) :
    Calls Try.prog 27 #[.pointer (some ⟨fb, 0, none⟩), .slice (some ⟨g, off, none⟩) c.length cap] w fun e w' => TakeQ fb lim p v r w g c q e w' := by
  obtain ⟨ad, n, cp, rfl⟩ := own_slice hown
  obtain ⟨hn, hnc⟩ := own_size hown
  obtain ⟨⟨c0, c1, c2, c3, c4, c5⟩, y1, y2, y3, y4, y5⟩ := cells6 hC
  have hfb : fb < w.heap.size := hC.lt
  have hn' : Hid (n = r.length) := hn
  have hqc : q ≤ c.length := by rw [hq]; split <;> omega
  generalize hcl : c.length = cl at *
  have hcl' : Hid (c.length = cl) := hcl
  obtain ⟨mi, sz, er⟩ := h
  simp only at hm hhz hmz c3 c4 c5
  have hqcap : q ≤ cap := by omega
  by_cases hmi : mi = 0
  · rw [if_pos hmi] at hm
    subst hmi
    have hN : ∀ W, Hid (Calls Try.prog 24 #[hdr 0 sz er, .int .i64 (n : Int)] W fun r' w' => r' = .returned (.int .i64 (m : Int)) ∧ w' = W.alloc (hO 0 sz er)) := fun W => by
      have := need_any 0 sz er n W (by omega) (by omega)
      rw [hm, ← hn]
      exact this
    have d1 : (if (cl : Int) < (m : Int) then (cl : Int) else (m : Int)) = (q : Int) := by rw [hq]; split <;> split <;> omega
    have d2 : (if cl < m then (cl : Int) else (m : Int)) = (q : Int) := by rw [hq]; split <;> omega
    clear hn hm hq hcl
    go_enter Try.func27, Try.ntmps27
    go_wp2_with fail
    refine wp_region_noPanic ?_
    refine wp_region_held_drew (S := fun W => W.cell? ⟨fb, 2, none⟩ = some (.slice ad n cp) ∧ W.cell? ⟨fb, 3, none⟩ = some (.int .i64 0) ∧ W.cell? ⟨fb, 4, none⟩ = some (.int .i64 (sz : Int)) ∧ W.cell? ⟨fb, 5, none⟩ = some (.int .i64 (er : Int))) (by kernel_rfl) ⟨c2, c3, c4, c5⟩ (fun _ => ?_)
    refine wpAnyH_take (i := 0) (v := ?va1) (by simp only [List.getElem?_toArray, List.getElem?_cons_zero]; exact rfl) (by kernel_rfl) (by kernel_rfl) (by kernel_rfl) (fun _ _ _ h => h) (Or.inl ⟨by rfl, ?ya1⟩) ⟨c2, c3, c4, c5⟩ ?ra1
    case ya1 =>
      intro w' hS
      obtain ⟨s2, s3, s4, s5⟩ := hS
      go_simp
      try with_reducible rfl
    case ra1 =>
    simp only [Act.put, List.setIfInBounds_toArray, List.set_cons_zero, List.set_cons_succ]
    refine wpAnyH_take (i := 1) (v := ?va2) (by simp only [List.getElem?_toArray, List.getElem?_cons_zero, List.getElem?_cons_succ]; exact rfl) (by kernel_rfl) (by kernel_rfl) (by kernel_rfl) (fun _ _ _ h => h) (Or.inl ⟨by rfl, ?ya2⟩) ⟨c2, c3, c4, c5⟩ ?ra2
    case ya2 =>
      intro w' hS
      obtain ⟨s2, s3, s4, s5⟩ := hS
      go_simp
      try with_reducible rfl
    case ra2 =>
    simp only [Act.put, List.setIfInBounds_toArray, List.set_cons_zero, List.set_cons_succ]
    refine wpAnyH_take (i := 2) (v := ?va3) (by simp only [List.getElem?_toArray, List.getElem?_cons_zero, List.getElem?_cons_succ]; exact rfl) (by kernel_rfl) (by kernel_rfl) (by kernel_rfl) (fun _ _ _ h => h) (Or.inl ⟨by rfl, ?ya3⟩) ⟨c2, c3, c4, c5⟩ ?ra3
    case ya3 =>
      intro w' hS
      obtain ⟨s2, s3, s4, s5⟩ := hS
      go_simp
      try with_reducible rfl
    case ra3 =>
    simp only [Act.put, List.setIfInBounds_toArray, List.set_cons_zero, List.set_cons_succ]
    refine wpAnyH_take (i := 3) (v := ?va4) (by simp only [List.getElem?_toArray, List.getElem?_cons_zero, List.getElem?_cons_succ]; exact rfl) (by kernel_rfl) (by kernel_rfl) (by kernel_rfl) (fun _ _ _ h => h) (Or.inl ⟨by rfl, ?ya4⟩) ⟨c2, c3, c4, c5⟩ ?ra4
    case ya4 =>
      intro w' hS
      obtain ⟨s2, s3, s4, s5⟩ := hS
      go_simp
      try with_reducible rfl
    case ra4 =>
    simp only [Act.put, List.setIfInBounds_toArray, List.set_cons_zero, List.set_cons_succ]
    refine wpAnyH_take (i := 4) (v := ?va5) (by simp only [List.getElem?_toArray, List.getElem?_cons_zero, List.getElem?_cons_succ]; exact rfl) (by kernel_rfl) (by kernel_rfl) (by kernel_rfl) (fun _ _ _ h => h) (Or.inl ⟨by rfl, ?ya5⟩) ⟨c2, c3, c4, c5⟩ ?ra5
    case ya5 =>
      intro w' hS
      obtain ⟨s2, s3, s4, s5⟩ := hS
      go_simp
      try with_reducible rfl
    case ra5 =>
    simp only [Act.put, List.setIfInBounds_toArray, List.set_cons_zero, List.set_cons_succ]
    refine wpAnyH_take (i := 5) (v := ?va6) (by simp only [List.getElem?_toArray, List.getElem?_cons_zero, List.getElem?_cons_succ]; exact rfl) (by kernel_rfl) (by kernel_rfl) (by kernel_rfl) (fun _ _ _ h => h) (Or.inl ⟨by rfl, ?ya6⟩) ⟨c2, c3, c4, c5⟩ ?ra6
    case ya6 =>
      intro w' hS
      obtain ⟨s2, s3, s4, s5⟩ := hS
      go_simp
      try with_reducible rfl
    case ra6 =>
    simp only [Act.put, List.setIfInBounds_toArray, List.set_cons_zero, List.set_cons_succ]
    refine wpAnyH_take (i := 6) (v := ?va7) (by simp only [List.getElem?_toArray, List.getElem?_cons_zero, List.getElem?_cons_succ]; exact rfl) (by kernel_rfl) (by kernel_rfl) (by kernel_rfl) (fun _ _ _ h => h) (Or.inl ⟨by rfl, ?ya7⟩) ⟨c2, c3, c4, c5⟩ ?ra7
    case ya7 =>
      intro w' hS
      obtain ⟨s2, s3, s4, s5⟩ := hS
      go_simp
      try with_reducible rfl
    case ra7 =>
    simp only [Act.put, List.setIfInBounds_toArray, List.set_cons_zero, List.set_cons_succ]
    refine wpAnyH_take (i := 7) (v := ?va8) (by simp only [List.getElem?_toArray, List.getElem?_cons_zero, List.getElem?_cons_succ]; exact rfl) (by kernel_rfl) (by kernel_rfl) (by kernel_rfl) (fun _ _ _ h => h) (Or.inl ⟨by rfl, ?ya8⟩) ⟨c2, c3, c4, c5⟩ ?ra8
    case ya8 =>
      intro w' hS
      obtain ⟨s2, s3, s4, s5⟩ := hS
      go_simp
      try with_reducible rfl
    case ra8 =>
    simp only [Act.put, List.setIfInBounds_toArray, List.set_cons_zero, List.set_cons_succ]
    refine wpAnyH_take (i := 8) (v := ?va9) (by simp only [List.getElem?_toArray, List.getElem?_cons_zero, List.getElem?_cons_succ]; exact rfl) (by kernel_rfl) (by kernel_rfl) (by kernel_rfl) (fun _ _ _ h => h) (Or.inl ⟨by rfl, ?ya9⟩) ⟨c2, c3, c4, c5⟩ ?ra9
    case ya9 =>
      intro w' hS
      obtain ⟨s2, s3, s4, s5⟩ := hS
      go_simp
      try with_reducible rfl
    case ra9 =>
    simp only [Act.put, List.setIfInBounds_toArray, List.set_cons_zero, List.set_cons_succ]
    refine wpAnyH_ready (rs := [9]) (by kernel_rfl) (by simp) ?_
    refine AllReadyH.cons (by simp only [List.getElem?_toArray, List.getElem?_cons_zero, List.getElem?_cons_succ]; exact rfl) (fun K hK => ?_) AllReadyH.nil
    go_simp
    refine (hN _).out.mono ?_
    rintro r' w1 ⟨rfl, rfl⟩
    have hCA : Cells (w.alloc (hO 0 sz er)).drew fb (frL lim p (.slice ad n cp) ⟨0, sz, er⟩) := hC.of_block (Below.heap_alloc _ _ _ hfb)
    have hownA : Own (w.alloc (hO 0 sz er)).drew (fb + 1) (.slice ad n cp) r := World.ownsRow.drew (World.ownsRow.alloc hown _)
    have hckA : Chk (w.alloc (hO 0 sz er)).drew g off c := hck.of_block (Below.heap_alloc w _ _ hgl)
    have nA : w.heap.size ≤ (w.alloc (hO 0 sz er)).drew.heap.size := by simp
    have eA : ∀ b, b < w.heap.size → (w.alloc (hO 0 sz er)).drew.heap[b]? = w.heap[b]? := fun b hb => Below.heap_alloc w _ _ hb
    have BA : Below fb w (w.alloc (hO 0 sz er)).drew := ((Below.refl _ _).alloc (Nat.le_of_lt hfb) _).drew
    obtain ⟨⟨e0, e1, e2, e3, e4, e5⟩, _⟩ := cells6 hCA
    go_simp
    refine hK.out _ _ ⟨e2, e3, e4, e5⟩ (fun _ => ?_)
    clear hK K e0 e1 e2 e3 e4 e5
    generalize (w.alloc (hO 0 sz er)).drew = wA at *
    refine wpAnyH_ready (rs := [10]) (by kernel_rfl) (by simp) ?_
    refine AllReadyH.cons (by simp only [List.getElem?_toArray, List.getElem?_cons_zero, List.getElem?_cons_succ]; exact rfl) (fun K hK => ?_) AllReadyH.nil
    go_simp
    obtain ⟨⟨e0, e1, e2, e3, e4, e5⟩, _⟩ := cells6 hCA
    refine hK.out _ _ ⟨e2, e3, e4, e5⟩ (fun _ => ?_)
    clear hK K
    refine wpAnyH_done (by kernel_rfl) ?_ _
    refine NoPanic.normal ?_
    clear c0 c1 c2 c3 c4 c5 y1 y2 y3 y4 y5
    obtain ⟨⟨e0, e1, e2, e3, e4, e5⟩, t1, t2, t3, t4, t5⟩ := cells6 hCA
    have hGr : Hid (Calls Try.prog 32 #[.slice ad n cp, .int .i64 (q : Int)] wA fun e w' => GrowQ (fb + 1) (.slice ad n cp) r q wA e w') := grow_any (fb + 1) (.slice ad n cp) r q wA hownA (by omega) q1 (by have := hn'.out; omega)
    go_wp2_with fail
    refine hGr.out.mono ?_
    rintro e wG ⟨gG, capG, cur, rfl, hgG, hrm, hcx, hcs, hct, hBg, hfr, hbG⟩
    rw [← hn'.out] at hrm hct ⊢
    have hfbA : fb < wA.heap.size := by omega
    have hCG : Cells wG fb (frL lim p (.slice ad n cp) ⟨0, sz, er⟩) := hCA.of_block (hbG.block fb hfbA)
    obtain ⟨⟨f0, f1, f2, f3, f4, f5⟩, z1, z2, z3, z4, z5⟩ := cells6 hCG
    have hgne : gG ≠ fb := by omega
    have w0 : n ≤ 1073741824 := by have := hn'.out; omega
    have w1 : q ≤ 1073741824 := by omega
    have w3 : n + q ≤ capG := hrm
    have w4 : (q : Int) ≤ (cl : Int) := by omega
    have hcapne : capG ≠ n := by omega
    obtain ⟨wS, hwS⟩ : ∃ wS, wG.setCell ⟨fb, 2, none⟩ (.slice (some ⟨gG, 0, none⟩) (n + q) capG) = wS := ⟨_, rfl⟩
    have hCS : Cells wS fb (frL lim p (.slice (some ⟨gG, 0, none⟩) (n + q) capG) ⟨0, sz, er⟩) := by rw [← hwS]; exact hCG.set 2 (by simp) _
    have heS : ∀ b, b ≠ fb → wS.heap[b]? = wG.heap[b]? := fun b hb => by rw [← hwS]; exact Below.heap_setCell _ _ _ _ hb
    have hgS : wS.heap[gG]? = some (.cells cur 5 (0, 0)) := by rw [heS gG hgne]; exact hgG
    have hckS : Chk wS g off c := hckA.of_block (by rw [heS g hgf, hbG.block g (by omega)])
    have hlq : (bv (c.take q)).length = q := by rw [bv_len, List.length_take]; have := hcl'.out; omega
    have hrun := run_copy_row (P := Try.prog) wS 45 45 3 5 gG n q (capG - n) ⟨g, off, none⟩ q cap cur 5 (bv (c.take q)) Try.underlying45 u8_one hgS (by rw [hlq]; exact (Nat.min_self q).symm) (fun j v hv => hckS.src q j v hv) (by rw [hlq, hcs]; omega) (bv_one _)
    have hownC := own_copied (W := wS) (fb := fb) (c := c) hgS hn'.out hrm hcx hcs hct hBg (by have := hcl'.out; omega)
    rw [hlq] at hrun hownC
    obtain ⟨wC, hwC⟩ : ∃ wC, wS.setRow gG (cur.toList.take n ++ bv (c.take q) ++ cur.toList.drop (n + q)).toArray = wC := ⟨_, rfl⟩
    have heC : ∀ b, b ≠ gG → wC.heap[b]? = wS.heap[b]? := fun b hb => by rw [← hwC]; exact setRow_other wS gG b _ hb
    have hnC : wC.heap.size = wG.heap.size := by rw [← hwC, ← hwS]; simp [World.setRow]
    have hBC : Below fb w wC := by
      refine (BA.trans (hbG.mono (by omega))).trans ?_
      rw [← hwC, ← hwS]
      refine below_setRow (Below.setCell (Below.refl _ _) ?_ _) (by omega) _
      exact Nat.le_refl _
    rw [hwC] at hrun hownC
    have hCC : Cells wC fb (frL lim p (.slice (some ⟨gG, 0, none⟩) (n + q) capG) ⟨0, sz, er⟩) := hCS.of_block (heC fb (by omega))
    have hLk : Hid (Calls Try.prog 33 #[.pointer (some ⟨fb, 0, none⟩)] wC fun e w' => e = .returned (.tuple #[]) ∧ Cells w' fb (frL lim p (.slice (some ⟨gG, 0, none⟩) (n + q) capG) (FrMath.look lim (r ++ c.take q))) ∧ Below fb wC w' ∧ ∀ b, b < wC.heap.size → b ≠ fb → w'.heap[b]? = wC.heap[b]?) := fLook_any fb lim p _ _ _ wC hCC hownC
    have hcell : wS.cell? ⟨fb, 2, none⟩ = some (.slice (some ⟨gG, 0, none⟩) (n + q) capG) := (cells6 hCS).1.2.2.1
    have heAll : Hid (∀ b, b < w.heap.size → b ≠ fb → b ≠ gG → wC.heap[b]? = w.heap[b]?) := fun b hb hb1 hb2 => by rw [heC b hb2, heS b hb1, hbG.block b (by omega), eA b hb]
    clear hCC hwC heC hCS heS hgS hckS hlq hgG hCG
    go_wp2_with fail
    refine hLk.out.mono ?_
    rintro e w9 ⟨rfl, hC9, hB9, he9⟩
    have hn9 : w.heap.size ≤ wC.heap.size := by have := hbG.size; omega
    have hgG9 : gG < wC.heap.size := (own_lt hownC rfl).2
    have hkp : Kept fb (.slice ad n cp) w w9 := by
      refine ⟨hBC.trans hB9, fun b hb hb1 hb2 => ?_⟩
      have hbg : b ≠ gG := by
        intro hh
        subst hh
        rcases hfr with hfr | hfr
        · exact hb2 hfr
        · omega
      rw [he9 b (by omega) hb1, heAll.out b hb hb1 hbg]
    have hown9 : Own w9 (fb + 1) (.slice (some ⟨gG, 0, none⟩) (n + q) capG) (r ++ c.take q) := own_below hownC (fun b hb => by
      injection hb with hb
      subst hb
      exact he9 _ hgG9 hgne)
    have hfresh : Fresh (.slice ad n cp) (.slice (some ⟨gG, 0, none⟩) (n + q) capG) w := by
      rcases hfr with hfr | hfr
      · exact Or.inl hfr.symm
      · refine Or.inr (fun b hb => ?_)
        injection hb with hb
        subst hb
        show w.heap.size ≤ gG
        omega
    have hck9 : Chk w9 g off c := hck.of_block (hkp.2 g hgl hgf hgv)
    have w4 : (q : Int) ≤ (cl : Int) := by omega
    have w5 : q ≤ cl := hqc
    have hres : Hid (∀ off', (cap ≠ q → off' = off + q) → TakeQ fb lim p (.slice ad n cp) r w g c q (.returned (.slice (some ⟨g, off', none⟩) (cl - q) (cap - q))) w9) := fun off' ho => by
      refine ⟨off', cap - q, _, by rw [hcl'.out], by rw [hcl'.out]; omega, by omega, ?_, hC9, hown9, hfresh, hkp⟩
      by_cases hcq : cap = q
      · intro jj hjj
        rw [List.length_drop, hcl'.out] at hjj
        omega
      · rw [ho hcq]
        exact hck9.drop q
    clear hkp hown9 hfresh hck9 hC9 hB9 he9 hLk hownC heAll hBC hfr hrun hcell hck hckA hown hownA hCA
    by_cases hcq : cap = q
    · go_wp2_with fail
      go_ret
      have hfin := hres.out off (fun hh => absurd hcq hh)
      rw [show cap - q = 0 by omega] at hfin
      exact hfin
    · go_wp2_with fail
      go_ret
      exact hres.out (off + q) (fun _ => rfl)
  · rw [if_neg hmi] at hm
    have e6 : ((mi : Int) == 0) = false := by rw [beq_eq_false_iff_ne]; omega
    subst hm
    have d1 : (if (cl : Int) < (m : Int) then (cl : Int) else (m : Int)) = (q : Int) := by rw [hq]; split <;> split <;> omega
    have d2 : (if cl < m then (cl : Int) else (m : Int)) = (q : Int) := by rw [hq]; split <;> omega
    have hCA : Cells w fb (frL lim p (.slice ad n cp) ⟨m, sz, er⟩) := hC
    have hownA : Own w (fb + 1) (.slice ad n cp) r := hown
    have hckA : Chk w g off c := hck
    have nA : w.heap.size ≤ w.heap.size := Nat.le_refl _
    have BA : Below fb w w := Below.refl _ _
    clear hn hq hcl hmi
    go_enter Try.func27, Try.ntmps27
    clear c0 c1 c2 c3 c4 c5 y1 y2 y3 y4 y5
    obtain ⟨⟨e0, e1, e2, e3, e4, e5⟩, t1, t2, t3, t4, t5⟩ := cells6 hCA
    have hGr : Hid (Calls Try.prog 32 #[.slice ad n cp, .int .i64 (q : Int)] w fun e w' => GrowQ (fb + 1) (.slice ad n cp) r q w e w') := grow_any (fb + 1) (.slice ad n cp) r q w hownA (by omega) q1 (by have := hn'.out; omega)
    go_wp2_with fail
    refine hGr.out.mono ?_
    rintro e wG ⟨gG, capG, cur, rfl, hgG, hrm, hcx, hcs, hct, hBg, hfr, hbG⟩
    rw [← hn'.out] at hrm hct ⊢
    have hfbA : fb < w.heap.size := by omega
    have hCG : Cells wG fb (frL lim p (.slice ad n cp) ⟨m, sz, er⟩) := hCA.of_block (hbG.block fb hfbA)
    obtain ⟨⟨f0, f1, f2, f3, f4, f5⟩, z1, z2, z3, z4, z5⟩ := cells6 hCG
    have hgne : gG ≠ fb := by omega
    have w0 : n ≤ 1073741824 := by have := hn'.out; omega
    have w1 : q ≤ 1073741824 := by omega
    have w3 : n + q ≤ capG := hrm
    have w4 : (q : Int) ≤ (cl : Int) := by omega
    have hcapne : capG ≠ n := by omega
    obtain ⟨wS, hwS⟩ : ∃ wS, wG.setCell ⟨fb, 2, none⟩ (.slice (some ⟨gG, 0, none⟩) (n + q) capG) = wS := ⟨_, rfl⟩
    have hCS : Cells wS fb (frL lim p (.slice (some ⟨gG, 0, none⟩) (n + q) capG) ⟨m, sz, er⟩) := by rw [← hwS]; exact hCG.set 2 (by simp) _
    have heS : ∀ b, b ≠ fb → wS.heap[b]? = wG.heap[b]? := fun b hb => by rw [← hwS]; exact Below.heap_setCell _ _ _ _ hb
    have hgS : wS.heap[gG]? = some (.cells cur 5 (0, 0)) := by rw [heS gG hgne]; exact hgG
    have hckS : Chk wS g off c := hckA.of_block (by rw [heS g hgf, hbG.block g (by omega)])
    have hlq : (bv (c.take q)).length = q := by rw [bv_len, List.length_take]; have := hcl'.out; omega
    have hrun := run_copy_row (P := Try.prog) wS 45 45 3 5 gG n q (capG - n) ⟨g, off, none⟩ q cap cur 5 (bv (c.take q)) Try.underlying45 u8_one hgS (by rw [hlq]; exact (Nat.min_self q).symm) (fun j v hv => hckS.src q j v hv) (by rw [hlq, hcs]; omega) (bv_one _)
    have hownC := own_copied (W := wS) (fb := fb) (c := c) hgS hn'.out hrm hcx hcs hct hBg (by have := hcl'.out; omega)
    rw [hlq] at hrun hownC
    obtain ⟨wC, hwC⟩ : ∃ wC, wS.setRow gG (cur.toList.take n ++ bv (c.take q) ++ cur.toList.drop (n + q)).toArray = wC := ⟨_, rfl⟩
    have heC : ∀ b, b ≠ gG → wC.heap[b]? = wS.heap[b]? := fun b hb => by rw [← hwC]; exact setRow_other wS gG b _ hb
    have hnC : wC.heap.size = wG.heap.size := by rw [← hwC, ← hwS]; simp [World.setRow]
    have hBC : Below fb w wC := by
      refine (BA.trans (hbG.mono (by omega))).trans ?_
      rw [← hwC, ← hwS]
      refine below_setRow (Below.setCell (Below.refl _ _) ?_ _) (by omega) _
      exact Nat.le_refl _
    rw [hwC] at hrun hownC
    have hCC : Cells wC fb (frL lim p (.slice (some ⟨gG, 0, none⟩) (n + q) capG) ⟨m, sz, er⟩) := hCS.of_block (heC fb (by omega))
    have hLk : Hid (Calls Try.prog 33 #[.pointer (some ⟨fb, 0, none⟩)] wC fun e w' => e = .returned (.tuple #[]) ∧ Cells w' fb (frL lim p (.slice (some ⟨gG, 0, none⟩) (n + q) capG) (FrMath.look lim (r ++ c.take q))) ∧ Below fb wC w' ∧ ∀ b, b < wC.heap.size → b ≠ fb → w'.heap[b]? = wC.heap[b]?) := fLook_any fb lim p _ _ _ wC hCC hownC
    have hcell : wS.cell? ⟨fb, 2, none⟩ = some (.slice (some ⟨gG, 0, none⟩) (n + q) capG) := (cells6 hCS).1.2.2.1
    have heAll : Hid (∀ b, b < w.heap.size → b ≠ fb → b ≠ gG → wC.heap[b]? = w.heap[b]?) := fun b hb hb1 hb2 => by rw [heC b hb2, heS b hb1, hbG.block b (by omega)]
    clear hCC hwC heC hCS heS hgS hckS hlq hgG hCG
    go_wp2_with fail
    refine hLk.out.mono ?_
    rintro e w9 ⟨rfl, hC9, hB9, he9⟩
    have hn9 : w.heap.size ≤ wC.heap.size := by have := hbG.size; omega
    have hgG9 : gG < wC.heap.size := (own_lt hownC rfl).2
    have hkp : Kept fb (.slice ad n cp) w w9 := by
      refine ⟨hBC.trans hB9, fun b hb hb1 hb2 => ?_⟩
      have hbg : b ≠ gG := by
        intro hh
        subst hh
        rcases hfr with hfr | hfr
        · exact hb2 hfr
        · omega
      rw [he9 b (by omega) hb1, heAll.out b hb hb1 hbg]
    have hown9 : Own w9 (fb + 1) (.slice (some ⟨gG, 0, none⟩) (n + q) capG) (r ++ c.take q) := own_below hownC (fun b hb => by
      injection hb with hb
      subst hb
      exact he9 _ hgG9 hgne)
    have hfresh : Fresh (.slice ad n cp) (.slice (some ⟨gG, 0, none⟩) (n + q) capG) w := by
      rcases hfr with hfr | hfr
      · exact Or.inl hfr.symm
      · refine Or.inr (fun b hb => ?_)
        injection hb with hb
        subst hb
        show w.heap.size ≤ gG
        omega
    have hck9 : Chk w9 g off c := hck.of_block (hkp.2 g hgl hgf hgv)
    have w4 : (q : Int) ≤ (cl : Int) := by omega
    have w5 : q ≤ cl := hqc
    have hres : Hid (∀ off', (cap ≠ q → off' = off + q) → TakeQ fb lim p (.slice ad n cp) r w g c q (.returned (.slice (some ⟨g, off', none⟩) (cl - q) (cap - q))) w9) := fun off' ho => by
      refine ⟨off', cap - q, _, by rw [hcl'.out], by rw [hcl'.out]; omega, by omega, ?_, hC9, hown9, hfresh, hkp⟩
      by_cases hcq : cap = q
      · intro jj hjj
        rw [List.length_drop, hcl'.out] at hjj
        omega
      · rw [ho hcq]
        exact hck9.drop q
    clear hkp hown9 hfresh hck9 hC9 hB9 he9 hLk hownC heAll hBC hfr hrun hcell hck hckA hown hownA hCA
    by_cases hcq : cap = q
    · go_wp2_with fail
      go_ret
      have hfin := hres.out off (fun hh => absurd hcq hh)
      rw [show cap - q = 0 by omega] at hfin
      exact hfin
    · go_wp2_with fail
      go_ret
      exact hres.out (off + q) (fun _ => rfl)
end Go.Proofs.Ytddkefjcpgdomaa
