import Derived.Test.YtddkefjcpgdomabFrJoinM
import Derived.Test.YtddkefjcpgdomabFrm10
namespace Go.Proofs.Ytddkefjcpgdomab
open Go.RowKit
open FrMath (Hdr lb bd within Out ends cut Cut)

theorem IsBodies.below {w w' : World} {a : Option Addr} {l : Nat} {F : Nat → Int} {X : Nat → ByteArray} (h : IsBodies w a l F X) (hb : Below w.heap.size w w') : IsBodies w' a l F X := fun i hi => by
  obtain ⟨b, off, e, h1, h2⟩ := h i hi
  exact ⟨b, off, e, by rw [hb.cell (World.block_lt_of_cell? w _ h1)]; exact h1, by rw [hb.cell (World.block_lt_of_cell? w _ h2)]; exact h2⟩
/-- What a body's message is. -/
theorem body_msg (f : Int) (x : ByteArray) (hx : x.size ≤ 1048576) :
    ∃ t M : ByteArray, (∀ W, Calls Try.prog 8 #[.string x] W fun r w' => r = .returned (.string t) ∧ W = w') ∧ (∀ W, Calls Try.prog 7 #[.int .i64 f, .string t] W fun r w' => r = .returned (.string M) ∧ Below W.heap.size W w') ∧ isMsg M.data.toList ∧ M.size ≤ x.size + 6 := by
  obtain ⟨t, ht, ht2, HS⟩ := short_any x (by omega)
  obtain ⟨k, hk, HW⟩ := wrap_any f t ht
  refine ⟨t, _, HS, HW, ⟨k, t.size, t.data.toList, hk, size_l t, by rw [app_l, S_l]⟩, ?_⟩
  rw [ByteArray.size_append, S_size, hd_len]
  have := hk.1
  omega

set_option maxRecDepth 100000 in
set_option maxHeartbeats 1000000 in
theorem frameJoins_walk (a : Option Addr) (l c : Nat) (F : Nat → Int) (X : Nat → ByteArray) (w : World) (hi : IsBodies w a l F X) (htot : tot X l ≤ 1048576) :
    Calls Try.prog 4 #[.slice a l c] w fun e w' => e = .returned (.bool true) ∧ Below w.heap.size w w' := by
  have hl3 : 3 * l ≤ 1048576 := Nat.le_trans (tot_ge X l) htot
  go_enter Try.func4, Try.ntmps4
  go_wp2_with fail
  go_loopw [3, 4, 5, 6] (fun wv sv' lv iv wr => ∃ (i L : Nat) (ws : List (List UInt8)) (Y : ByteArray), i ≤ l ∧ iv = .int .i64 (i : Int) ∧ sv' = .string Y ∧ lv = .int .i64 (L : Int) ∧ Hid (OwnS wr w.heap.size wv ws) ∧ Hid (Y.data.toList = ws.flatten ∧ Y.size ≤ 2 * tot X i) ∧ Hid ((∀ m ∈ ws, isMsg m ∧ m.length ≤ L) ∧ ws.length = i ∧ L ≤ 2 * tot X i ∧ (0 < i → 2 ≤ L)) ∧ Below w.heap.size w wr) (fun _ _ _ iv _ => l - (intOf iv).toNat)
  case atStart => exact ⟨0, 0, [], ⟨#[]⟩, Nat.zero_le _, rfl, rfl, rfl, ownS_nil _ _, ⟨rfl, Nat.zero_le _⟩, ⟨fun m hm => (by cases hm), rfl, Nat.le_refl _, fun h => absurd h (Nat.lt_irrefl _)⟩, Below.refl _ _⟩
  case round =>
    obtain ⟨i, L, ws, Y, hil, rfl, rfl, rfl, hown, hY, hws, HB⟩ := hrel
    obtain ⟨la, lc, rfl⟩ := ownS_len hown.out
    by_cases hlt : i < l
    · obtain ⟨b, off, rfl, hc1, hc2⟩ := (hi.below HB) i hlt
      have htl : tot X i + ((X i).size + 3) ≤ 1048576 := Nat.le_trans (tot_mono X (i + 1) l hlt) htot
      obtain ⟨t, M, HS0, HW0, hmsg, hMs⟩ := body_msg (F i) (X i) (by omega)
      have HS : ∀ W, Hid (Calls Try.prog 8 #[.string (X i)] W fun r w' => r = .returned (.string t) ∧ W = w') := HS0
      have HW : ∀ W, Hid (Calls Try.prog 7 #[.int .i64 (F i), .string t] W fun r w' => r = .returned (.string M) ∧ Below W.heap.size W w') := HW0
      have i0 : (0 : Int) ≤ (i : Int) := Int.natCast_nonneg _
      have i1 : (i : Int) < (l : Int) := Int.ofNat_lt.2 hlt
      have hlt' : Hid (i < l) := hlt
      clear HS0 HW0
      go_upto_region 7 with fail
      refine wp_region_noPanic ?_
      refine wp_region_held_drew (S := fun W => W.cell? ⟨b, off + i * 2, none⟩ = some (.int .i64 (F i)) ∧ W.cell? ⟨b, off + i * 2 + 1, none⟩ = some (.string (X i))) (by kernel_rfl) ⟨hc1, hc2⟩ (fun _ => ?_)
      refine wpAnyH_take (i := 0) (v := ?va1) (by simp only [List.getElem?_toArray, List.getElem?_cons_zero]; exact rfl) (by kernel_rfl) (by kernel_rfl) (by kernel_rfl) (fun _ _ _ h => h) (Or.inl ⟨by rfl, ?ya1⟩) ⟨hc1, hc2⟩ ?ra1
      case ya1 =>
        intro w' hS
        obtain ⟨s1, s2⟩ := hS
        go_simp
        try with_reducible rfl
      case ra1 =>
      simp only [Act.put, List.setIfInBounds_toArray, List.set_cons_zero, List.set_cons_succ]
      refine wpAnyH_take (i := 1) (v := ?va2) (by simp only [List.getElem?_toArray, List.getElem?_cons_zero, List.getElem?_cons_succ]; exact rfl) (by kernel_rfl) (by kernel_rfl) (by kernel_rfl) (fun _ _ _ h => h) (Or.inl ⟨by rfl, ?ya2⟩) ⟨hc1, hc2⟩ ?ra2
      case ya2 =>
        intro w' hS
        obtain ⟨s1, s2⟩ := hS
        go_simp
        try with_reducible rfl
      case ra2 =>
      simp only [Act.put, List.setIfInBounds_toArray, List.set_cons_zero, List.set_cons_succ]
      refine wpAnyH_take (i := 2) (v := ?va3) (by simp only [List.getElem?_toArray, List.getElem?_cons_zero, List.getElem?_cons_succ]; exact rfl) (by kernel_rfl) (by kernel_rfl) (by kernel_rfl) (fun _ _ _ h => h) (Or.inl ⟨by rfl, ?ya3⟩) ⟨hc1, hc2⟩ ?ra3
      case ya3 =>
        intro w' hS
        obtain ⟨s1, s2⟩ := hS
        go_simp
        try with_reducible rfl
      case ra3 =>
      simp only [Act.put, List.setIfInBounds_toArray, List.set_cons_zero, List.set_cons_succ]
      refine wpAnyH_take (i := 3) (v := ?va4) (by simp only [List.getElem?_toArray, List.getElem?_cons_zero, List.getElem?_cons_succ]; exact rfl) (by kernel_rfl) (by kernel_rfl) (by kernel_rfl) (fun _ _ _ h => h) (Or.inl ⟨by rfl, ?ya4⟩) ⟨hc1, hc2⟩ ?ra4
      case ya4 =>
        intro w' hS
        obtain ⟨s1, s2⟩ := hS
        go_simp
        try with_reducible rfl
      case ra4 =>
      simp only [Act.put, List.setIfInBounds_toArray, List.set_cons_zero, List.set_cons_succ]
      refine wpAnyH_take (i := 4) (v := ?va5) (by simp only [List.getElem?_toArray, List.getElem?_cons_zero, List.getElem?_cons_succ]; exact rfl) (by kernel_rfl) (by kernel_rfl) (by kernel_rfl) (fun _ _ _ h => h) (Or.inl ⟨by rfl, ?ya5⟩) ⟨hc1, hc2⟩ ?ra5
      case ya5 =>
        intro w' hS
        obtain ⟨s1, s2⟩ := hS
        go_simp
        try with_reducible rfl
      case ra5 =>
      simp only [Act.put, List.setIfInBounds_toArray, List.set_cons_zero, List.set_cons_succ]
      refine wpAnyH_take (i := 5) (v := ?va6) (by simp only [List.getElem?_toArray, List.getElem?_cons_zero, List.getElem?_cons_succ]; exact rfl) (by kernel_rfl) (by kernel_rfl) (by kernel_rfl) (fun _ _ _ h => h) (Or.inl ⟨by rfl, ?ya6⟩) ⟨hc1, hc2⟩ ?ra6
      case ya6 =>
        intro w' hS
        obtain ⟨s1, s2⟩ := hS
        go_simp
        try with_reducible rfl
      case ra6 =>
      simp only [Act.put, List.setIfInBounds_toArray, List.set_cons_zero, List.set_cons_succ]
      refine wpAnyH_take (i := 6) (v := ?va7) (by simp only [List.getElem?_toArray, List.getElem?_cons_zero, List.getElem?_cons_succ]; exact rfl) (by kernel_rfl) (by kernel_rfl) (by kernel_rfl) (fun _ _ _ h => h) (Or.inl ⟨by rfl, ?ya7⟩) ⟨hc1, hc2⟩ ?ra7
      case ya7 =>
        intro w' hS
        obtain ⟨s1, s2⟩ := hS
        go_simp
        try with_reducible rfl
      case ra7 =>
      simp only [Act.put, List.setIfInBounds_toArray, List.set_cons_zero, List.set_cons_succ]
      refine wpAnyH_take (i := 7) (v := ?va8) (by simp only [List.getElem?_toArray, List.getElem?_cons_zero, List.getElem?_cons_succ]; exact rfl) (by kernel_rfl) (by kernel_rfl) (by kernel_rfl) (fun _ _ _ h => h) (Or.inl ⟨by rfl, ?ya8⟩) ⟨hc1, hc2⟩ ?ra8
      case ya8 =>
        intro w' hS
        obtain ⟨s1, s2⟩ := hS
        go_simp
        try with_reducible rfl
      case ra8 =>
      simp only [Act.put, List.setIfInBounds_toArray, List.set_cons_zero, List.set_cons_succ]
      refine wpAnyH_take (i := 8) (v := ?va9) (by simp only [List.getElem?_toArray, List.getElem?_cons_zero, List.getElem?_cons_succ]; exact rfl) (by kernel_rfl) (by kernel_rfl) (by kernel_rfl) (fun _ _ _ h => h) (Or.inl ⟨by rfl, ?ya9⟩) ⟨hc1, hc2⟩ ?ra9
      case ya9 =>
        intro w' hS
        obtain ⟨s1, s2⟩ := hS
        go_simp
        try with_reducible rfl
      case ra9 =>
      simp only [Act.put, List.setIfInBounds_toArray, List.set_cons_zero, List.set_cons_succ]
      refine wpAnyH_take (i := 9) (v := ?va10) (by simp only [List.getElem?_toArray, List.getElem?_cons_zero, List.getElem?_cons_succ]; exact rfl) (by kernel_rfl) (by kernel_rfl) (by kernel_rfl) (fun _ _ _ h => h) (Or.inl ⟨by rfl, ?ya10⟩) ⟨hc1, hc2⟩ ?ra10
      case ya10 =>
        intro w' hS
        obtain ⟨s1, s2⟩ := hS
        go_simp
        try with_reducible rfl
      case ra10 =>
      simp only [Act.put, List.setIfInBounds_toArray, List.set_cons_zero, List.set_cons_succ]
      refine wpAnyH_ready (rs := [10]) (by kernel_rfl) (by simp) ?_
      refine AllReadyH.cons (by simp only [List.getElem?_toArray, List.getElem?_cons_zero, List.getElem?_cons_succ]; exact rfl) (fun K hK => ?_) AllReadyH.nil
      go_simp
      refine (HS _).out.mono ?_
      rintro e w1 ⟨rfl, rfl⟩
      go_simp
      refine hK.out _ _ ⟨hc1, hc2⟩ (fun _ => ?_)
      clear hK K
      refine wpAnyH_ready (rs := [11]) (by kernel_rfl) (by simp) ?_
      refine AllReadyH.cons (by simp only [List.getElem?_toArray, List.getElem?_cons_zero, List.getElem?_cons_succ]; exact rfl) (fun K hK => ?_) AllReadyH.nil
      go_simp
      refine (HW _).out.mono ?_
      rintro e w2 ⟨rfl, hb2⟩
      have hd1 : w2.cell? ⟨b, off + i * 2, none⟩ = some (.int .i64 (F i)) := by rw [hb2.cell (World.block_lt_of_cell? wr _ hc1)]; exact hc1
      have hd2 : w2.cell? ⟨b, off + i * 2 + 1, none⟩ = some (.string (X i)) := by rw [hb2.cell (World.block_lt_of_cell? wr _ hc2)]; exact hc2
      go_simp
      refine hK.out _ _ ⟨hd1, hd2⟩ (fun _ => ?_)
      clear hK K
      refine wpAnyH_ready (rs := [12]) (by kernel_rfl) (by simp) ?_
      refine AllReadyH.cons (by simp only [List.getElem?_toArray, List.getElem?_cons_zero, List.getElem?_cons_succ]; exact rfl) (fun K hK => ?_) AllReadyH.nil
      go_simp
      refine hK.out _ _ ⟨hd1, hd2⟩ (fun _ => ?_)
      clear hK K
      refine wpAnyH_done (by kernel_rfl) ?_ _
      refine NoPanic.normal ?_
      have hown2 : Hid (OwnS w2 w.heap.size (.slice la ws.length lc) ws) := ownS_below (w := wr.drew) hown.out hb2
      have HB2 : Below w.heap.size w w2 := HB.drew.trans (hb2.mono HB.size)
      have hn2 : w.heap.size ≤ w2.heap.size := HB2.size
      have hl2 : Hid (ws.length ≤ 4194304) := by have := hws.out.2.1; unfold Hid; omega
      have hSM : Hid (S M.data.toList = M) := S_of M
      obtain ⟨hYl, hYs⟩ := hY.out
      obtain ⟨hw1, hw2, hw3, hw4⟩ := hws.out
      have hti : Hid (tot X (i + 1) = tot X i + ((X i).size + 3)) := rfl
      have hY2 : Y.size ≤ 2097152 := by omega
      have hM2 : M.size ≤ 1048582 := by omega
      have hMl := size_l M
      have hm2 := isMsg_len hmsg
      have hY' : Hid ((Y ++ M).data.toList = (ws ++ [M.data.toList]).flatten ∧ (Y ++ M).size ≤ 2 * tot X (i + 1)) := by
        unfold Hid
        rw [app_l, hYl, ByteArray.size_append, hti.out]
        refine ⟨by simp, by omega⟩
      have hnew : Hid (∀ L' : Nat, L ≤ L' → M.size ≤ L' → (L' = L ∨ L' = M.size) → (∀ m ∈ ws ++ [M.data.toList], isMsg m ∧ m.length ≤ L') ∧ (ws ++ [M.data.toList]).length = i + 1 ∧ L' ≤ 2 * tot X (i + 1) ∧ (0 < i + 1 → 2 ≤ L')) := by
        unfold Hid
        intro L' h1 h2 h3
        refine ⟨fun m hm => ?_, by rw [List.length_append, hw2]; rfl, by rw [hti.out]; omega, fun _ => by omega⟩
        rcases List.mem_append.1 hm with h | h
        · exact ⟨(hw1 m h).1, Nat.le_trans (hw1 m h).2 h1⟩
        · rw [List.mem_singleton] at h
          rw [h]
          exact ⟨hmsg, by omega⟩
      have hmeas : Hid (l - (i + 1) < l - i) := by unfold Hid; omega
      clear hY hws hc1 hc2 hd1 hd2 hb2 hown HB hYl hYs hw1 hw2 hw3 hw4 HS HW hmsg hMs htl hti hMl hm2 hi
      by_cases hLM : L < M.size
      · go_wp2_with (at_builtin; refine push_text _ rfl _ _ rfl w.heap.size _ ws M.data.toList _ rfl rfl ?_ ?_ ?_ hl2.out ?_; (exact World.ownsRow.alloc hown2.out _); (rw [hSM.out]; exact heap_alloc_new _ _); (simp; omega); intro g6 cap6 w6 hown6 hgr6 hlie6 hb6)
        refine ⟨⟨i + 1, M.size, ws ++ [M.data.toList], Y ++ M, hlt'.out, by simp, rfl, rfl, hown6, hY', hnew.out M.size (by omega) (Nat.le_refl _) (Or.inr rfl), (HB2.alloc hn2 _).trans hb6⟩, ?_⟩
        have := hmeas.out
        simp [intOf]
        omega
      · go_wp2_with (at_builtin; refine push_text _ rfl _ _ rfl w.heap.size _ ws M.data.toList _ rfl rfl ?_ ?_ ?_ hl2.out ?_; (exact World.ownsRow.alloc hown2.out _); (rw [hSM.out]; exact heap_alloc_new _ _); (simp; omega); intro g6 cap6 w6 hown6 hgr6 hlie6 hb6)
        refine ⟨⟨i + 1, L, ws ++ [M.data.toList], Y ++ M, hlt'.out, by simp, rfl, rfl, hown6, hY', hnew.out L (Nat.le_refl _) (by omega) (Or.inl rfl), (HB2.alloc hn2 _).trans hb6⟩, ?_⟩
        have := hmeas.out
        simp [intOf]
        omega
    · have hie : i = l := by omega
      subst hie
      obtain ⟨hYl, hYs⟩ := hY.out
      obtain ⟨hw1, hw2, hw3, hw4⟩ := hws.out
      obtain ⟨N, hN, hNs⟩ : ∃ N : Nat, ((((i : Int) == 0) = true ∧ N = 2) ∨ (((i : Int) == 0) = false ∧ L = N)) ∧ (2 ≤ N ∧ N ≤ 4194304 ∧ ∀ m ∈ ws, isMsg m ∧ (m.length : Int) ≤ (N : Int)) := by
        by_cases h0 : i = 0
        · refine ⟨2, Or.inl ⟨by rw [beq_iff_eq]; omega, rfl⟩, by omega, by omega, fun m hm => ?_⟩
          rw [List.eq_nil_of_length_eq_zero (hw2.trans h0)] at hm
          cases hm
        · exact ⟨L, Or.inr ⟨by rw [beq_eq_false_iff_ne]; omega, rfl⟩, hw4 (by omega), by omega, fun m hm => ⟨(hw1 m hm).1, by have := (hw1 m hm).2; omega⟩⟩
      have hcutY : Cut (N : Int) Y.data.toList = ⟨ws, Y.size, 0⟩ := by rw [hYl, cut_joined (N : Int) ws hNs.2.2, ← hYl, size_l]
      have hY2 : Y.size ≤ 2097152 := by omega
      have A1 : Hid (asks (N : Int) Y ⟨ws, Y.size, 0⟩) := asks_of _ _ _ (by omega) hcutY
      have HNw : ∀ W, Hid (Calls Try.prog 9 #[.int .i64 (N : Int)] W fun e w' => ∃ fb, e = .returned (.pointer (some ⟨fb, 0, none⟩)) ∧ W.heap.size ≤ fb ∧ w'.heap.size = fb + 1 ∧ Cells w' fb (frL (N : Int) 0 (.slice none 0 0) ⟨2, 2, 0⟩) ∧ Below W.heap.size W w') := fun W => new_any (N : Int) W
      have hcutY' : Hid (Cut (N : Int) Y.data.toList = ⟨ws, Y.size, 0⟩) := hcutY
      have hwl : Hid (ws.length ≤ 4194304) := by unfold Hid; omega
      have hN2 : Hid (2 ≤ N ∧ N ≤ 4194304) := ⟨hNs.1, hNs.2.1⟩
      clear hY hws hYl hYs hw1 hw2 hw3 hw4 hNs hcutY hlt hi htot hl3 hil
      rcases hN with ⟨d1, rfl⟩ | ⟨d1, rfl⟩
      · go_wp2_with fail
        refine (A1.out _).mono ?_
        rintro e w1 ⟨⟨cv, rfl, hownC⟩, hb1⟩
        simp only at hownC
        obtain ⟨ca, cc, rfl⟩ := ownS_len hownC
        have hwt1 : OwnS w1 w.heap.size (.slice la ws.length lc) ws := ownS_below hown.out hb1
        have HB1 : Below w.heap.size w w1 := HB.trans (hb1.mono HB.size)
        have hsm : ∀ t, Hid (Calls Try.prog 15 #[.slice ca ws.length cc, .slice la ws.length lc] (w1.alloc t) fun r w' => r = .returned (.bool true) ∧ Below (w1.alloc t).heap.size (w1.alloc t) w') := fun t => same_any ws _ _ _ _ (w1.alloc t) hwl.out (World.ownsRow.alloc hownC _) (World.ownsRow.alloc hwt1 _)
        have hwt1' : ∀ t, Hid (OwnS (w1.alloc t) w.heap.size (.slice la ws.length lc) ws) := fun t => World.ownsRow.alloc hwt1 _
        clear hown HB hb1 hownC hwt1
        go_wp2_with fail
        refine (hsm _).out.mono ?_
        rintro e w2 ⟨rfl, hb2⟩
        have hwt2 : OwnS w2 w.heap.size (.slice la ws.length lc) ws := ownS_below (hwt1' _).out hb2
        have HB2 : Below w.heap.size w w2 := (HB1.alloc HB1.size _).trans (hb2.mono (HB1.alloc HB1.size _).size)
        clear hb2 HB1 hsm hwt1'
        go_wp2_with fail
        refine (HNw _).out.mono ?_
        rintro e w3 ⟨fb, rfl, hfb1, hfb2, hCf, hb3⟩
        have HB3 : Below w.heap.size w w3 := HB2.trans (hb3.mono HB2.size)
        have hwt3 : Hid (OwnS w3 w.heap.size (.slice la ws.length lc) ws) := ownS_below hwt2 hb3
        have hfs : Hid (FSt fb ((2 : Nat) : Int) [] (.slice none 0 0) w3 w3.heap.size) := by
          refine ⟨fun _ => ⟨?_, ?_, proper_nil _⟩, fun h => absurd (by rw [Cut_nil]) h, fun x hx => by cases hx⟩
          · rw [Cut_nil]; exact hCf
          · rw [Cut_nil]; exact ⟨rfl, Or.inl ⟨rfl, rfl⟩⟩
        have hcbl : Hid (w.heap.size ≤ fb ∧ fb < w3.heap.size ∧ ∀ x, (Value.slice la ws.length lc).ownBlock = some x → x < w3.heap.size ∧ x ≠ fb) := by
          unfold Hid
          have := HB2.size
          refine ⟨by omega, by omega, fun x hx => ?_⟩
          have := (ownS_lt hwt2 hx).2
          omega
        clear hCf hb3 HB2 hwt2 HNw A1 hfb1 hfb2
        go_wp2_with fail
        go_loopw [10, 11] (fun gv iv wr => ∃ (j : Nat) (v : Value) (gms : List (List UInt8)), j ≤ Y.size ∧ iv = .int .i64 (j : Int) ∧ Hid (gms = (Cut ((2 : Nat) : Int) (Y.data.toList.take j)).ms) ∧ Hid (OwnS wr w3.heap.size gv gms) ∧ Hid (FSt fb ((2 : Nat) : Int) (Y.data.toList.take j) v wr w3.heap.size) ∧ Hid (∀ x, v.ownBlock = some x → gv.ownBlock ≠ some x) ∧ Hid (∀ b, b < w3.heap.size → b ≠ fb → wr.heap[b]? = w3.heap[b]?) ∧ Below w.heap.size w wr ∧ w3.heap.size ≤ wr.heap.size) (fun _ iv _ => Y.size - (intOf iv).toNat)
        case atStart =>
          refine ⟨0, .slice none 0 0, [], Nat.zero_le _, rfl, ?_, ownS_nil _ _, ?_, ?_, ?_, HB3, Nat.le_refl _⟩
          · unfold Hid; rw [List.take_zero, Cut_nil]
          · unfold Hid; rw [List.take_zero]; exact hfs.out
          · unfold Hid; intro x hx; cases hx
          · unfold Hid; intro b _ _; rfl
        case round =>
          obtain ⟨j, v, gms, hjl, rfl, hgms, hgo, hst, hap, hlow, HB, hnr⟩ := hrel
          clear hfs HB3
          by_cases hlt : j < Y.size
          · have hjY : j < Y.data.toList.length := by rw [size_l]; exact hlt
            obtain ⟨hj1, hj2, hj3⟩ := join_step (L := ((2 : Nat) : Int)) hjY (by rw [hcutY'.out])
            obtain ⟨hCr, hor, hpr⟩ := hst.out.ok hj1
            have hjk := fun k hk => hj3 k hpr hk
            obtain ⟨x, hx⟩ : ∃ x, Y.data.toList[j]'hjY = x := ⟨_, rfl⟩
            have htk : Hid (Y.data.toList.take (j + 1) = Y.data.toList.take j ++ [x]) := by unfold Hid; rw [List.take_succ_eq_append_getElem hjY, hx]
            rw [hx] at hj2 hjk
            obtain ⟨bb, hbb⟩ : ∃ bb, Y.data.toList.take j = bb := ⟨_, rfl⟩
            rw [hbb] at hj1 hj2 hjk hCr hor hpr hgms hst htk
            have hbl : Hid (bb.length = j ∧ j < Y.size) := by unfold Hid; rw [← hbb, List.length_take]; omega
            obtain ⟨rr, hrr⟩ : ∃ rr, bb.drop (Cut ((2 : Nat) : Int) bb).at_ = rr := ⟨_, rfl⟩
            rw [hrr] at hCr hor hpr hjk
            have hrl : rr.length ≤ 2097152 := by rw [← hrr, List.length_drop]; have := hbl.out; omega
            obtain ⟨nd, hnd⟩ : ∃ nd, (FrMath.look ((2 : Nat) : Int) rr).sz - rr.length = nd := ⟨_, rfl⟩
            have hNd : Hid (Calls Try.prog 12 #[.pointer (some ⟨fb, 0, none⟩)] wr fun e w' => e = .returned (.int .i64 (nd : Int)) ∧ Below wr.heap.size wr w') := by
              have h := needM_any fb ((2 : Nat) : Int) _ v _ rr wr hCr hor (by have := look_small ((2 : Nat) : Int) rr; omega) (by omega)
              rw [hnd] at h
              exact h
            rw [hnd] at hjk
            have hjk' : Hid (∀ k, (Cut ((2 : Nat) : Int) bb).ms ++ k = (Cut ((2 : Nat) : Int) (bb ++ [x])).ms → (k.length = 0 ∨ (k.length = 1 ∧ nd = 1))) := hjk
            have her2 : Hid ((Cut ((2 : Nat) : Int) (bb ++ [x])).er = 0) := hj2
            obtain ⟨X1, hX1⟩ : ∃ X1, Y.extract j (j + 1) = X1 := ⟨_, rfl⟩
            have hX1l : Hid (X1.data.toList = [x] ∧ X1.size = 1) := by
              have h1 : X1.data.toList = [x] := by rw [← hX1, extract_one Y j hjY, hx]
              exact ⟨h1, by rw [← size_l, h1]; rfl⟩
            have j0 : (0 : Int) ≤ (j : Int) := Int.natCast_nonneg _
            have j1 : (j : Int) < (Y.size : Int) := Int.ofNat_lt.2 hlt
            have j2 : j + 1 ≤ Y.size := hlt
            have hlt' : Hid (j < Y.size) := hlt
            clear hj3 hjk hnd hpr hor hCr hx hjl hlt hj1 hj2 hjY hbb hrr hrl
            go_wp2_with fail
            refine hNd.out.mono ?_
            rintro e w4 ⟨rfl, hb4⟩
            have hn4 : wr.heap.size ≤ w4.heap.size := hb4.size
            have hs4 : FSt fb ((2 : Nat) : Int) bb v w4 w3.heap.size := hst.out.of (hb4.block _ hst.out.lt) (fun x hx => hb4.block x (hst.out.high x hx).2) hn4
            obtain ⟨W5, cap, hcv, hbc, hnc, hck, hcc, hcap⟩ := conv_chk w4 X1 (by have := hX1l.out.2; omega)
            have hs5 : FSt fb ((2 : Nat) : Int) bb v W5 w3.heap.size := hs4.of (hbc.block _ hs4.lt) (fun x hx => hbc.block x (hs4.high x hx).2) hbc.size
            have hb5 : Hid (Below wr.heap.size wr W5 ∧ W5.heap.size = w4.heap.size + 1) := ⟨hb4.trans (hbc.mono hn4), hnc⟩
            have hFd : Hid (Calls Try.prog 10 #[.pointer (some ⟨fb, 0, none⟩), .slice (some ⟨w4.heap.size, 0, none⟩) X1.size cap] W5 fun e w' => ∃ mv v' k, e = .returned (.tuple #[mv, .int .i64 ((Cut ((2 : Nat) : Int) (bb ++ [x])).er : Int)]) ∧ OwnS w' W5.heap.size mv k ∧ (Cut ((2 : Nat) : Int) bb).ms ++ k = (Cut ((2 : Nat) : Int) (bb ++ [x])).ms ∧ FSt fb ((2 : Nat) : Int) (bb ++ [x]) v' w' w3.heap.size ∧ Fresh v v' W5 ∧ Kept fb v W5 w' ∧ (∀ y, v'.ownBlock = some y → mv.ownBlock ≠ some y)) := by
              have h := feed_fst fb ((2 : Nat) : Int) bb [x] v W5 w3.heap.size w4.heap.size cap hs5 (by omega) (by omega) (by have := hs4.lt; omega) (fun hh => by have := (hs4.high _ hh).2; omega) (by rw [← hX1l.out.1]; exact hck) (by have := hX1l.out.2; simp; omega) hcap (by have := hbl.out; simp; omega)
              have e1 : ([x] : List UInt8).length = X1.size := by rw [hX1l.out.2]; rfl
              rw [e1] at h
              exact h
            have hgl5 : Hid (∀ y, u10.ownBlock = some y → w3.heap.size ≤ y ∧ y < wr.heap.size) := fun y hy => ownS_lt hgo.out hy
            have hfbH : Hid (fb < w3.heap.size ∧ w.heap.size ≤ fb) := ⟨hcbl.out.2.1, hcbl.out.1⟩
            have hhigh : Hid (∀ y, v.ownBlock = some y → w3.heap.size ≤ y) := fun y hy => (hst.out.high y hy).1
            rw [hX1l.out.2] at hcv hFd
            clear hs4 hs5 hck hcc hcap hbc hb4 hst hNd
            go_wp2_with fail
            refine hFd.out.mono ?_
            rintro e w6 ⟨mv, v6, kk, rfl, hmv, happ, hfs6, hfr6, hkp6, hap6⟩
            obtain ⟨ma, mc, rfl⟩ := ownS_len hmv
            obtain ⟨hC6, ho6, hp6⟩ := hfs6.ok her2.out
            obtain ⟨hv, hhv⟩ : ∃ hv, ((bb ++ [x]).drop (Cut ((2 : Nat) : Int) (bb ++ [x])).at_).length = hv := ⟨_, rfl⟩
            have hHd : Hid (Calls Try.prog 11 #[.pointer (some ⟨fb, 0, none⟩)] w6 fun e w' => e = .returned (.int .i64 (hv : Int)) ∧ w6 = w') := by
              have h := held_any fb ((2 : Nat) : Int) _ v6 _ _ w6 hC6 ho6
              rw [hhv] at h
              exact h
            have hheld := held_ok hp6
            rw [hhv] at hheld
            have hkk := hjk'.out kk happ
            obtain ⟨hb5a, hb5b⟩ := hb5.out
            have hn6 : W5.heap.size ≤ w6.heap.size := hkp6.1.size
            have hgl := hgl5.out
            have hfH := hfbH.out
            have hgo6 : Hid (OwnS w6 w3.heap.size u10 gms) := ownS_of hgo.out (fun y hy => by
              have h1 := hgl y hy
              rw [hkp6.2 y (by omega) (by omega) (fun hh => hap.out y hh hy), hb5a.block y h1.2])
            have hap7 : Hid (∀ y, v6.ownBlock = some y → u10.ownBlock ≠ some y) := fun y hy hh => by
              have h1 := hgl y hh
              rcases hfr6 with h2 | h2
              · exact hap.out y (by rw [← h2]; exact hy) hh
              · have := h2 y hy
                omega
            have hlen6 : Hid (gms.length + kk.length ≤ 8388608) := by
              have h1 := cut_ms_le ((2 : Nat) : Int) (bb ++ [x])
              rw [← happ, ← hgms.out, List.length_append, List.length_append] at h1
              have := hbl.out
              unfold Hid
              simp at h1
              omega
            have hlow6 : Hid (∀ b, b < w3.heap.size → b ≠ fb → w6.heap[b]? = w3.heap[b]?) := fun b hb hbn => by
              rw [hkp6.2 b (by omega) hbn (fun hh => by have := hhigh.out b hh; omega), hb5a.block b (by omega), hlow.out b hb hbn]
            have HB6 : Below w.heap.size w w6 := (HB.trans (hb5a.mono HB.size)).trans (hkp6.1.mono (by omega))
            have hnew : Hid ((gms ++ kk) = (Cut ((2 : Nat) : Int) (Y.data.toList.take (j + 1))).ms) := by unfold Hid; rw [htk.out, ← happ, hgms.out]
            have hfs6' : Hid (FSt fb ((2 : Nat) : Int) (Y.data.toList.take (j + 1)) v6 w6 w3.heap.size) := by unfold Hid; rw [htk.out]; exact hfs6
            have hmv' : Hid (OwnS w6 W5.heap.size (.slice ma kk.length mc) kk) := hmv
            have hn63 : Hid (w3.heap.size ≤ w6.heap.size) := by unfold Hid; omega
            have hgl6 : Hid (∀ y, u10.ownBlock = some y → w3.heap.size ≤ y ∧ y < w6.heap.size) := fun y hy => ⟨(hgl y hy).1, by have := (hgl y hy).2; omega⟩
            have hiw : Hid (wrap64 ((j : Int) + 1) = ((j + 1 : Nat) : Int)) := by have := hlt'.out; unfold Hid wrap64; omega
            have hend : Hid (∀ g7 w7, OwnS w7 w3.heap.size g7 (gms ++ kk) → (∀ b, b < w6.heap.size → u10.ownBlock ≠ some b → w7.heap[b]? = w6.heap[b]?) → Fresh u10 g7 w6 → Below w3.heap.size w6 w7 → FSt fb ((2 : Nat) : Int) (Y.data.toList.take (j + 1)) v6 w7 w3.heap.size ∧ (∀ y, v6.ownBlock = some y → g7.ownBlock ≠ some y) ∧ (∀ b, b < w3.heap.size → b ≠ fb → w7.heap[b]? = w3.heap[b]?) ∧ Below w.heap.size w w7 ∧ w3.heap.size ≤ w7.heap.size) := fun g7 w7 _ hblk hfr7 hb7 => by
              have hn7 : w6.heap.size ≤ w7.heap.size := hb7.size
              have hg := hgl6.out
              have hn := hn63.out
              refine ⟨hfs6'.out.of (hblk fb (by omega) (fun hh => by have := (hg fb hh).1; omega)) (fun y hy => hblk y (hfs6'.out.high y hy).2 (hap7.out y hy)) hn7, fun y hy hh => ?_, fun b hb hbn => ?_, HB6.trans (hb7.mono (by omega)), by omega⟩
              · rcases hfr7 with h1 | h1
                · exact hap7.out y hy (h1.symm.trans hh)
                · have := h1 y hh
                  have := (hfs6'.out.high y hy).2
                  omega
              · rw [hblk b (by omega) (fun hh => by have := (hg b hh).1; omega), hlow6.out b hb hbn]
            rw [her2.out]
            have hhc : (decide ((2 : Int) ≤ (hv : Int)) = false ∧ ¬ 2 ≤ hv) ∨ (decide ((2 : Int) ≤ (hv : Int)) = true ∧ 2 ≤ hv ∧ decide ((5 : Int) < (hv : Int)) = false) := by
              by_cases h : 2 ≤ hv
              · exact Or.inr ⟨decide_eq_true (by omega), h, decide_eq_false (by intro h5; exact hheld ⟨by omega, by omega⟩)⟩
              · exact Or.inl ⟨decide_eq_false (by omega), h⟩
            clear hC6 ho6 hp6 hhv hheld happ hfs6 hfr6 hkp6 hap6 hmv hgl hfH hb5a hb5b hn6 hcv hFd hgo hap hlow HB hgms hnr
            rcases hkk with hk0 | ⟨hk0, hk1⟩
            · have hmv0 : Hid (OwnS w6 W5.heap.size (.slice ma 0 mc) kk) := by unfold Hid; rw [← hk0]; exact hmv'.out
              rw [hk0]
              clear hk0 hmv'
              rcases hhc with ⟨d7, d8⟩ | ⟨d7, d8, d9⟩
              · go_wp2_with (first | (go_at_call 11; refine hHd.out.mono ?_; rintro e w8 ⟨rfl, rfl⟩) | (at_builtin; refine push_many _ rfl _ _ rfl w3.heap.size W5.heap.size _ _ gms kk rfl rfl ?_ ?_ ?_ hlen6.out ?_; (exact hgo6.out); (exact hmv0.out); (exact hn63.out); intro g7 w7 hown7 hblk7 hfr7 hb7))
                refine ⟨⟨j + 1, v6, gms ++ kk, hlt'.out, by first | rw [hiw.out] | simp, hnew, hown7, (hend.out _ _ hown7 hblk7 hfr7 hb7).1, (hend.out _ _ hown7 hblk7 hfr7 hb7).2.1, (hend.out _ _ hown7 hblk7 hfr7 hb7).2.2.1, (hend.out _ _ hown7 hblk7 hfr7 hb7).2.2.2.1, (hend.out _ _ hown7 hblk7 hfr7 hb7).2.2.2.2⟩, ?_⟩
                first | exact meas_next Y.size j hlt'.out hiw.out | (have := hlt'.out; simp [intOf]; omega)
              · go_wp2_with (first | (go_at_call 11; refine hHd.out.mono ?_; rintro e w8 ⟨rfl, rfl⟩) | (at_builtin; refine push_many _ rfl _ _ rfl w3.heap.size W5.heap.size _ _ gms kk rfl rfl ?_ ?_ ?_ hlen6.out ?_; (exact hgo6.out); (exact hmv0.out); (exact hn63.out); intro g7 w7 hown7 hblk7 hfr7 hb7))
                refine ⟨⟨j + 1, v6, gms ++ kk, hlt'.out, by first | rw [hiw.out] | simp, hnew, hown7, (hend.out _ _ hown7 hblk7 hfr7 hb7).1, (hend.out _ _ hown7 hblk7 hfr7 hb7).2.1, (hend.out _ _ hown7 hblk7 hfr7 hb7).2.2.1, (hend.out _ _ hown7 hblk7 hfr7 hb7).2.2.2.1, (hend.out _ _ hown7 hblk7 hfr7 hb7).2.2.2.2⟩, ?_⟩
                first | exact meas_next Y.size j hlt'.out hiw.out | (have := hlt'.out; simp [intOf]; omega)
            · have hmv0 : Hid (OwnS w6 W5.heap.size (.slice ma 1 mc) kk) := by unfold Hid; rw [← hk0]; exact hmv'.out
              rw [hk0]
              subst hk1
              clear hk0 hmv'
              rcases hhc with ⟨d7, d8⟩ | ⟨d7, d8, d9⟩
              · go_wp2_with (first | (go_at_call 11; refine hHd.out.mono ?_; rintro e w8 ⟨rfl, rfl⟩) | (at_builtin; refine push_many _ rfl _ _ rfl w3.heap.size W5.heap.size _ _ gms kk rfl rfl ?_ ?_ ?_ hlen6.out ?_; (exact hgo6.out); (exact hmv0.out); (exact hn63.out); intro g7 w7 hown7 hblk7 hfr7 hb7))
                refine ⟨⟨j + 1, v6, gms ++ kk, hlt'.out, by first | rw [hiw.out] | simp, hnew, hown7, (hend.out _ _ hown7 hblk7 hfr7 hb7).1, (hend.out _ _ hown7 hblk7 hfr7 hb7).2.1, (hend.out _ _ hown7 hblk7 hfr7 hb7).2.2.1, (hend.out _ _ hown7 hblk7 hfr7 hb7).2.2.2.1, (hend.out _ _ hown7 hblk7 hfr7 hb7).2.2.2.2⟩, ?_⟩
                first | exact meas_next Y.size j hlt'.out hiw.out | (have := hlt'.out; simp [intOf]; omega)
              · go_wp2_with (first | (go_at_call 11; refine hHd.out.mono ?_; rintro e w8 ⟨rfl, rfl⟩) | (at_builtin; refine push_many _ rfl _ _ rfl w3.heap.size W5.heap.size _ _ gms kk rfl rfl ?_ ?_ ?_ hlen6.out ?_; (exact hgo6.out); (exact hmv0.out); (exact hn63.out); intro g7 w7 hown7 hblk7 hfr7 hb7))
                refine ⟨⟨j + 1, v6, gms ++ kk, hlt'.out, by first | rw [hiw.out] | simp, hnew, hown7, (hend.out _ _ hown7 hblk7 hfr7 hb7).1, (hend.out _ _ hown7 hblk7 hfr7 hb7).2.1, (hend.out _ _ hown7 hblk7 hfr7 hb7).2.2.1, (hend.out _ _ hown7 hblk7 hfr7 hb7).2.2.2.1, (hend.out _ _ hown7 hblk7 hfr7 hb7).2.2.2.2⟩, ?_⟩
                first | exact meas_next Y.size j hlt'.out hiw.out | (have := hlt'.out; simp [intOf]; omega)
          · have hje : j = Y.size := by omega
            subst hje
            have htl : Y.data.toList.take Y.size = Y.data.toList := by rw [← size_l, List.take_length]
            rw [htl] at hgms hst
            rw [hcutY'.out] at hgms
            have hgw : gms = ws := hgms.out
            subst hgw
            obtain ⟨hCr, hor, hpr⟩ := hst.out.ok (by rw [hcutY'.out])
            rw [hcutY'.out] at hCr hor
            simp only at hCr hor
            have hdn : Y.data.toList.drop Y.size = [] := by rw [← size_l, List.drop_length]
            rw [hdn] at hCr hor
            have hwtr : OwnS wr w.heap.size (.slice la gms.length lc) gms := ownS_of hwt3.out (fun y hy => hlow.out y (hcbl.out.2.2 y hy).1 (hcbl.out.2.2 y hy).2)
            have hHd : Hid (Calls Try.prog 11 #[.pointer (some ⟨fb, 0, none⟩)] wr fun e w' => e = .returned (.int .i64 0) ∧ wr = w') := held_any fb ((2 : Nat) : Int) _ v _ [] wr hCr hor
            have hNd : Hid (Calls Try.prog 12 #[.pointer (some ⟨fb, 0, none⟩)] wr fun e w' => e = .returned (.int .i64 2) ∧ Below wr.heap.size wr w') := needM_any fb ((2 : Nat) : Int) _ v _ [] wr hCr hor (by rw [FrMath.look_nil]; decide) (by decide)
            have hgo' : Hid (OwnS wr w3.heap.size u10 gms) := hgo.out
            have hwtr' : Hid (OwnS wr w.heap.size (.slice la gms.length lc) gms) := hwtr
            clear hgms hst hCr hor hpr hdn htl hap hlow hgo hwtr hwt3
            go_wp2_with fail
            refine hHd.out.mono ?_
            rintro e w8 ⟨rfl, rfl⟩
            go_wp2_with fail
            refine hNd.out.mono ?_
            rintro e w8 ⟨rfl, hb8⟩
            have HB8 : Below w.heap.size w w8 := HB.trans (hb8.mono HB.size)
            have hsm : Hid (Calls Try.prog 15 #[u10, .slice la gms.length lc] w8 fun r w' => r = .returned (.bool true) ∧ Below w8.heap.size w8 w') := same_any gms _ _ _ _ w8 hwl.out (ownS_below hgo'.out hb8) (ownS_below hwtr'.out hb8)
            clear hb8
            go_wp2_with fail
            refine hsm.out.mono ?_
            rintro e w9 ⟨rfl, hb9⟩
            go_wp2_with fail
            go_ret
            exact ⟨rfl, HB8.trans (hb9.mono HB8.size)⟩
      · go_wp2_with fail
        refine (A1.out _).mono ?_
        rintro e w1 ⟨⟨cv, rfl, hownC⟩, hb1⟩
        simp only at hownC
        obtain ⟨ca, cc, rfl⟩ := ownS_len hownC
        have hwt1 : OwnS w1 w.heap.size (.slice la ws.length lc) ws := ownS_below hown.out hb1
        have HB1 : Below w.heap.size w w1 := HB.trans (hb1.mono HB.size)
        have hsm : ∀ t, Hid (Calls Try.prog 15 #[.slice ca ws.length cc, .slice la ws.length lc] (w1.alloc t) fun r w' => r = .returned (.bool true) ∧ Below (w1.alloc t).heap.size (w1.alloc t) w') := fun t => same_any ws _ _ _ _ (w1.alloc t) hwl.out (World.ownsRow.alloc hownC _) (World.ownsRow.alloc hwt1 _)
        have hwt1' : ∀ t, Hid (OwnS (w1.alloc t) w.heap.size (.slice la ws.length lc) ws) := fun t => World.ownsRow.alloc hwt1 _
        clear hown HB hb1 hownC hwt1
        go_wp2_with fail
        refine (hsm _).out.mono ?_
        rintro e w2 ⟨rfl, hb2⟩
        have hwt2 : OwnS w2 w.heap.size (.slice la ws.length lc) ws := ownS_below (hwt1' _).out hb2
        have HB2 : Below w.heap.size w w2 := (HB1.alloc HB1.size _).trans (hb2.mono (HB1.alloc HB1.size _).size)
        clear hb2 HB1 hsm hwt1'
        go_wp2_with fail
        refine (HNw _).out.mono ?_
        rintro e w3 ⟨fb, rfl, hfb1, hfb2, hCf, hb3⟩
        have HB3 : Below w.heap.size w w3 := HB2.trans (hb3.mono HB2.size)
        have hwt3 : Hid (OwnS w3 w.heap.size (.slice la ws.length lc) ws) := ownS_below hwt2 hb3
        have hfs : Hid (FSt fb (L : Int) [] (.slice none 0 0) w3 w3.heap.size) := by
          refine ⟨fun _ => ⟨?_, ?_, proper_nil _⟩, fun h => absurd (by rw [Cut_nil]) h, fun x hx => by cases hx⟩
          · rw [Cut_nil]; exact hCf
          · rw [Cut_nil]; exact ⟨rfl, Or.inl ⟨rfl, rfl⟩⟩
        have hcbl : Hid (w.heap.size ≤ fb ∧ fb < w3.heap.size ∧ ∀ x, (Value.slice la ws.length lc).ownBlock = some x → x < w3.heap.size ∧ x ≠ fb) := by
          unfold Hid
          have := HB2.size
          refine ⟨by omega, by omega, fun x hx => ?_⟩
          have := (ownS_lt hwt2 hx).2
          omega
        clear hCf hb3 HB2 hwt2 HNw A1 hfb1 hfb2
        go_wp2_with fail
        go_loopw [10, 11] (fun gv iv wr => ∃ (j : Nat) (v : Value) (gms : List (List UInt8)), j ≤ Y.size ∧ iv = .int .i64 (j : Int) ∧ Hid (gms = (Cut (L : Int) (Y.data.toList.take j)).ms) ∧ Hid (OwnS wr w3.heap.size gv gms) ∧ Hid (FSt fb (L : Int) (Y.data.toList.take j) v wr w3.heap.size) ∧ Hid (∀ x, v.ownBlock = some x → gv.ownBlock ≠ some x) ∧ Hid (∀ b, b < w3.heap.size → b ≠ fb → wr.heap[b]? = w3.heap[b]?) ∧ Below w.heap.size w wr ∧ w3.heap.size ≤ wr.heap.size) (fun _ iv _ => Y.size - (intOf iv).toNat)
        case atStart =>
          refine ⟨0, .slice none 0 0, [], Nat.zero_le _, rfl, ?_, ownS_nil _ _, ?_, ?_, ?_, HB3, Nat.le_refl _⟩
          · unfold Hid; rw [List.take_zero, Cut_nil]
          · unfold Hid; rw [List.take_zero]; exact hfs.out
          · unfold Hid; intro x hx; cases hx
          · unfold Hid; intro b _ _; rfl
        case round =>
          obtain ⟨j, v, gms, hjl, rfl, hgms, hgo, hst, hap, hlow, HB, hnr⟩ := hrel
          clear hfs HB3
          by_cases hlt : j < Y.size
          · have hjY : j < Y.data.toList.length := by rw [size_l]; exact hlt
            obtain ⟨hj1, hj2, hj3⟩ := join_step (L := (L : Int)) hjY (by rw [hcutY'.out])
            obtain ⟨hCr, hor, hpr⟩ := hst.out.ok hj1
            have hjk := fun k hk => hj3 k hpr hk
            obtain ⟨x, hx⟩ : ∃ x, Y.data.toList[j]'hjY = x := ⟨_, rfl⟩
            have htk : Hid (Y.data.toList.take (j + 1) = Y.data.toList.take j ++ [x]) := by unfold Hid; rw [List.take_succ_eq_append_getElem hjY, hx]
            rw [hx] at hj2 hjk
            obtain ⟨bb, hbb⟩ : ∃ bb, Y.data.toList.take j = bb := ⟨_, rfl⟩
            rw [hbb] at hj1 hj2 hjk hCr hor hpr hgms hst htk
            have hbl : Hid (bb.length = j ∧ j < Y.size) := by unfold Hid; rw [← hbb, List.length_take]; omega
            obtain ⟨rr, hrr⟩ : ∃ rr, bb.drop (Cut (L : Int) bb).at_ = rr := ⟨_, rfl⟩
            rw [hrr] at hCr hor hpr hjk
            have hrl : rr.length ≤ 2097152 := by rw [← hrr, List.length_drop]; have := hbl.out; omega
            obtain ⟨nd, hnd⟩ : ∃ nd, (FrMath.look (L : Int) rr).sz - rr.length = nd := ⟨_, rfl⟩
            have hNd : Hid (Calls Try.prog 12 #[.pointer (some ⟨fb, 0, none⟩)] wr fun e w' => e = .returned (.int .i64 (nd : Int)) ∧ Below wr.heap.size wr w') := by
              have h := needM_any fb (L : Int) _ v _ rr wr hCr hor (by have := look_small (L : Int) rr; omega) (by omega)
              rw [hnd] at h
              exact h
            rw [hnd] at hjk
            have hjk' : Hid (∀ k, (Cut (L : Int) bb).ms ++ k = (Cut (L : Int) (bb ++ [x])).ms → (k.length = 0 ∨ (k.length = 1 ∧ nd = 1))) := hjk
            have her2 : Hid ((Cut (L : Int) (bb ++ [x])).er = 0) := hj2
            obtain ⟨X1, hX1⟩ : ∃ X1, Y.extract j (j + 1) = X1 := ⟨_, rfl⟩
            have hX1l : Hid (X1.data.toList = [x] ∧ X1.size = 1) := by
              have h1 : X1.data.toList = [x] := by rw [← hX1, extract_one Y j hjY, hx]
              exact ⟨h1, by rw [← size_l, h1]; rfl⟩
            have j0 : (0 : Int) ≤ (j : Int) := Int.natCast_nonneg _
            have j1 : (j : Int) < (Y.size : Int) := Int.ofNat_lt.2 hlt
            have j2 : j + 1 ≤ Y.size := hlt
            have hlt' : Hid (j < Y.size) := hlt
            clear hj3 hjk hnd hpr hor hCr hx hjl hlt hj1 hj2 hjY hbb hrr hrl
            go_wp2_with fail
            refine hNd.out.mono ?_
            rintro e w4 ⟨rfl, hb4⟩
            have hn4 : wr.heap.size ≤ w4.heap.size := hb4.size
            have hs4 : FSt fb (L : Int) bb v w4 w3.heap.size := hst.out.of (hb4.block _ hst.out.lt) (fun x hx => hb4.block x (hst.out.high x hx).2) hn4
            obtain ⟨W5, cap, hcv, hbc, hnc, hck, hcc, hcap⟩ := conv_chk w4 X1 (by have := hX1l.out.2; omega)
            have hs5 : FSt fb (L : Int) bb v W5 w3.heap.size := hs4.of (hbc.block _ hs4.lt) (fun x hx => hbc.block x (hs4.high x hx).2) hbc.size
            have hb5 : Hid (Below wr.heap.size wr W5 ∧ W5.heap.size = w4.heap.size + 1) := ⟨hb4.trans (hbc.mono hn4), hnc⟩
            have hFd : Hid (Calls Try.prog 10 #[.pointer (some ⟨fb, 0, none⟩), .slice (some ⟨w4.heap.size, 0, none⟩) X1.size cap] W5 fun e w' => ∃ mv v' k, e = .returned (.tuple #[mv, .int .i64 ((Cut (L : Int) (bb ++ [x])).er : Int)]) ∧ OwnS w' W5.heap.size mv k ∧ (Cut (L : Int) bb).ms ++ k = (Cut (L : Int) (bb ++ [x])).ms ∧ FSt fb (L : Int) (bb ++ [x]) v' w' w3.heap.size ∧ Fresh v v' W5 ∧ Kept fb v W5 w' ∧ (∀ y, v'.ownBlock = some y → mv.ownBlock ≠ some y)) := by
              have h := feed_fst fb (L : Int) bb [x] v W5 w3.heap.size w4.heap.size cap hs5 (by omega) (by omega) (by have := hs4.lt; omega) (fun hh => by have := (hs4.high _ hh).2; omega) (by rw [← hX1l.out.1]; exact hck) (by have := hX1l.out.2; simp; omega) hcap (by have := hbl.out; simp; omega)
              have e1 : ([x] : List UInt8).length = X1.size := by rw [hX1l.out.2]; rfl
              rw [e1] at h
              exact h
            have hgl5 : Hid (∀ y, u10.ownBlock = some y → w3.heap.size ≤ y ∧ y < wr.heap.size) := fun y hy => ownS_lt hgo.out hy
            have hfbH : Hid (fb < w3.heap.size ∧ w.heap.size ≤ fb) := ⟨hcbl.out.2.1, hcbl.out.1⟩
            have hhigh : Hid (∀ y, v.ownBlock = some y → w3.heap.size ≤ y) := fun y hy => (hst.out.high y hy).1
            rw [hX1l.out.2] at hcv hFd
            clear hs4 hs5 hck hcc hcap hbc hb4 hst hNd
            go_wp2_with fail
            refine hFd.out.mono ?_
            rintro e w6 ⟨mv, v6, kk, rfl, hmv, happ, hfs6, hfr6, hkp6, hap6⟩
            obtain ⟨ma, mc, rfl⟩ := ownS_len hmv
            obtain ⟨hC6, ho6, hp6⟩ := hfs6.ok her2.out
            obtain ⟨hv, hhv⟩ : ∃ hv, ((bb ++ [x]).drop (Cut (L : Int) (bb ++ [x])).at_).length = hv := ⟨_, rfl⟩
            have hHd : Hid (Calls Try.prog 11 #[.pointer (some ⟨fb, 0, none⟩)] w6 fun e w' => e = .returned (.int .i64 (hv : Int)) ∧ w6 = w') := by
              have h := held_any fb (L : Int) _ v6 _ _ w6 hC6 ho6
              rw [hhv] at h
              exact h
            have hheld := held_ok hp6
            rw [hhv] at hheld
            have hkk := hjk'.out kk happ
            obtain ⟨hb5a, hb5b⟩ := hb5.out
            have hn6 : W5.heap.size ≤ w6.heap.size := hkp6.1.size
            have hgl := hgl5.out
            have hfH := hfbH.out
            have hgo6 : Hid (OwnS w6 w3.heap.size u10 gms) := ownS_of hgo.out (fun y hy => by
              have h1 := hgl y hy
              rw [hkp6.2 y (by omega) (by omega) (fun hh => hap.out y hh hy), hb5a.block y h1.2])
            have hap7 : Hid (∀ y, v6.ownBlock = some y → u10.ownBlock ≠ some y) := fun y hy hh => by
              have h1 := hgl y hh
              rcases hfr6 with h2 | h2
              · exact hap.out y (by rw [← h2]; exact hy) hh
              · have := h2 y hy
                omega
            have hlen6 : Hid (gms.length + kk.length ≤ 8388608) := by
              have h1 := cut_ms_le (L : Int) (bb ++ [x])
              rw [← happ, ← hgms.out, List.length_append, List.length_append] at h1
              have := hbl.out
              unfold Hid
              simp at h1
              omega
            have hlow6 : Hid (∀ b, b < w3.heap.size → b ≠ fb → w6.heap[b]? = w3.heap[b]?) := fun b hb hbn => by
              rw [hkp6.2 b (by omega) hbn (fun hh => by have := hhigh.out b hh; omega), hb5a.block b (by omega), hlow.out b hb hbn]
            have HB6 : Below w.heap.size w w6 := (HB.trans (hb5a.mono HB.size)).trans (hkp6.1.mono (by omega))
            have hnew : Hid ((gms ++ kk) = (Cut (L : Int) (Y.data.toList.take (j + 1))).ms) := by unfold Hid; rw [htk.out, ← happ, hgms.out]
            have hfs6' : Hid (FSt fb (L : Int) (Y.data.toList.take (j + 1)) v6 w6 w3.heap.size) := by unfold Hid; rw [htk.out]; exact hfs6
            have hmv' : Hid (OwnS w6 W5.heap.size (.slice ma kk.length mc) kk) := hmv
            have hn63 : Hid (w3.heap.size ≤ w6.heap.size) := by unfold Hid; omega
            have hgl6 : Hid (∀ y, u10.ownBlock = some y → w3.heap.size ≤ y ∧ y < w6.heap.size) := fun y hy => ⟨(hgl y hy).1, by have := (hgl y hy).2; omega⟩
            have hiw : Hid (wrap64 ((j : Int) + 1) = ((j + 1 : Nat) : Int)) := by have := hlt'.out; unfold Hid wrap64; omega
            have hend : Hid (∀ g7 w7, OwnS w7 w3.heap.size g7 (gms ++ kk) → (∀ b, b < w6.heap.size → u10.ownBlock ≠ some b → w7.heap[b]? = w6.heap[b]?) → Fresh u10 g7 w6 → Below w3.heap.size w6 w7 → FSt fb (L : Int) (Y.data.toList.take (j + 1)) v6 w7 w3.heap.size ∧ (∀ y, v6.ownBlock = some y → g7.ownBlock ≠ some y) ∧ (∀ b, b < w3.heap.size → b ≠ fb → w7.heap[b]? = w3.heap[b]?) ∧ Below w.heap.size w w7 ∧ w3.heap.size ≤ w7.heap.size) := fun g7 w7 _ hblk hfr7 hb7 => by
              have hn7 : w6.heap.size ≤ w7.heap.size := hb7.size
              have hg := hgl6.out
              have hn := hn63.out
              refine ⟨hfs6'.out.of (hblk fb (by omega) (fun hh => by have := (hg fb hh).1; omega)) (fun y hy => hblk y (hfs6'.out.high y hy).2 (hap7.out y hy)) hn7, fun y hy hh => ?_, fun b hb hbn => ?_, HB6.trans (hb7.mono (by omega)), by omega⟩
              · rcases hfr7 with h1 | h1
                · exact hap7.out y hy (h1.symm.trans hh)
                · have := h1 y hh
                  have := (hfs6'.out.high y hy).2
                  omega
              · rw [hblk b (by omega) (fun hh => by have := (hg b hh).1; omega), hlow6.out b hb hbn]
            rw [her2.out]
            have hhc : (decide ((L : Int) ≤ (hv : Int)) = false ∧ ¬ L ≤ hv) ∨ (decide ((L : Int) ≤ (hv : Int)) = true ∧ L ≤ hv ∧ decide ((5 : Int) < (hv : Int)) = false) := by
              by_cases h : L ≤ hv
              · exact Or.inr ⟨decide_eq_true (by omega), h, decide_eq_false (by intro h5; exact hheld ⟨by omega, by omega⟩)⟩
              · exact Or.inl ⟨decide_eq_false (by omega), h⟩
            clear hC6 ho6 hp6 hhv hheld happ hfs6 hfr6 hkp6 hap6 hmv hgl hfH hb5a hb5b hn6 hcv hFd hgo hap hlow HB hgms hnr
            rcases hkk with hk0 | ⟨hk0, hk1⟩
            · have hmv0 : Hid (OwnS w6 W5.heap.size (.slice ma 0 mc) kk) := by unfold Hid; rw [← hk0]; exact hmv'.out
              rw [hk0]
              clear hk0 hmv'
              rcases hhc with ⟨d7, d8⟩ | ⟨d7, d8, d9⟩
              · go_wp2_with (first | (go_at_call 11; refine hHd.out.mono ?_; rintro e w8 ⟨rfl, rfl⟩) | (at_builtin; refine push_many _ rfl _ _ rfl w3.heap.size W5.heap.size _ _ gms kk rfl rfl ?_ ?_ ?_ hlen6.out ?_; (exact hgo6.out); (exact hmv0.out); (exact hn63.out); intro g7 w7 hown7 hblk7 hfr7 hb7))
                refine ⟨⟨j + 1, v6, gms ++ kk, hlt'.out, by first | rw [hiw.out] | simp, hnew, hown7, (hend.out _ _ hown7 hblk7 hfr7 hb7).1, (hend.out _ _ hown7 hblk7 hfr7 hb7).2.1, (hend.out _ _ hown7 hblk7 hfr7 hb7).2.2.1, (hend.out _ _ hown7 hblk7 hfr7 hb7).2.2.2.1, (hend.out _ _ hown7 hblk7 hfr7 hb7).2.2.2.2⟩, ?_⟩
                first | exact meas_next Y.size j hlt'.out hiw.out | (have := hlt'.out; simp [intOf]; omega)
              · go_wp2_with (first | (go_at_call 11; refine hHd.out.mono ?_; rintro e w8 ⟨rfl, rfl⟩) | (at_builtin; refine push_many _ rfl _ _ rfl w3.heap.size W5.heap.size _ _ gms kk rfl rfl ?_ ?_ ?_ hlen6.out ?_; (exact hgo6.out); (exact hmv0.out); (exact hn63.out); intro g7 w7 hown7 hblk7 hfr7 hb7))
                refine ⟨⟨j + 1, v6, gms ++ kk, hlt'.out, by first | rw [hiw.out] | simp, hnew, hown7, (hend.out _ _ hown7 hblk7 hfr7 hb7).1, (hend.out _ _ hown7 hblk7 hfr7 hb7).2.1, (hend.out _ _ hown7 hblk7 hfr7 hb7).2.2.1, (hend.out _ _ hown7 hblk7 hfr7 hb7).2.2.2.1, (hend.out _ _ hown7 hblk7 hfr7 hb7).2.2.2.2⟩, ?_⟩
                first | exact meas_next Y.size j hlt'.out hiw.out | (have := hlt'.out; simp [intOf]; omega)
            · have hmv0 : Hid (OwnS w6 W5.heap.size (.slice ma 1 mc) kk) := by unfold Hid; rw [← hk0]; exact hmv'.out
              rw [hk0]
              subst hk1
              clear hk0 hmv'
              rcases hhc with ⟨d7, d8⟩ | ⟨d7, d8, d9⟩
              · go_wp2_with (first | (go_at_call 11; refine hHd.out.mono ?_; rintro e w8 ⟨rfl, rfl⟩) | (at_builtin; refine push_many _ rfl _ _ rfl w3.heap.size W5.heap.size _ _ gms kk rfl rfl ?_ ?_ ?_ hlen6.out ?_; (exact hgo6.out); (exact hmv0.out); (exact hn63.out); intro g7 w7 hown7 hblk7 hfr7 hb7))
                refine ⟨⟨j + 1, v6, gms ++ kk, hlt'.out, by first | rw [hiw.out] | simp, hnew, hown7, (hend.out _ _ hown7 hblk7 hfr7 hb7).1, (hend.out _ _ hown7 hblk7 hfr7 hb7).2.1, (hend.out _ _ hown7 hblk7 hfr7 hb7).2.2.1, (hend.out _ _ hown7 hblk7 hfr7 hb7).2.2.2.1, (hend.out _ _ hown7 hblk7 hfr7 hb7).2.2.2.2⟩, ?_⟩
                first | exact meas_next Y.size j hlt'.out hiw.out | (have := hlt'.out; simp [intOf]; omega)
              · go_wp2_with (first | (go_at_call 11; refine hHd.out.mono ?_; rintro e w8 ⟨rfl, rfl⟩) | (at_builtin; refine push_many _ rfl _ _ rfl w3.heap.size W5.heap.size _ _ gms kk rfl rfl ?_ ?_ ?_ hlen6.out ?_; (exact hgo6.out); (exact hmv0.out); (exact hn63.out); intro g7 w7 hown7 hblk7 hfr7 hb7))
                refine ⟨⟨j + 1, v6, gms ++ kk, hlt'.out, by first | rw [hiw.out] | simp, hnew, hown7, (hend.out _ _ hown7 hblk7 hfr7 hb7).1, (hend.out _ _ hown7 hblk7 hfr7 hb7).2.1, (hend.out _ _ hown7 hblk7 hfr7 hb7).2.2.1, (hend.out _ _ hown7 hblk7 hfr7 hb7).2.2.2.1, (hend.out _ _ hown7 hblk7 hfr7 hb7).2.2.2.2⟩, ?_⟩
                first | exact meas_next Y.size j hlt'.out hiw.out | (have := hlt'.out; simp [intOf]; omega)
          · have hje : j = Y.size := by omega
            subst hje
            have htl : Y.data.toList.take Y.size = Y.data.toList := by rw [← size_l, List.take_length]
            rw [htl] at hgms hst
            rw [hcutY'.out] at hgms
            have hgw : gms = ws := hgms.out
            subst hgw
            obtain ⟨hCr, hor, hpr⟩ := hst.out.ok (by rw [hcutY'.out])
            rw [hcutY'.out] at hCr hor
            simp only at hCr hor
            have hdn : Y.data.toList.drop Y.size = [] := by rw [← size_l, List.drop_length]
            rw [hdn] at hCr hor
            have hwtr : OwnS wr w.heap.size (.slice la gms.length lc) gms := ownS_of hwt3.out (fun y hy => hlow.out y (hcbl.out.2.2 y hy).1 (hcbl.out.2.2 y hy).2)
            have hHd : Hid (Calls Try.prog 11 #[.pointer (some ⟨fb, 0, none⟩)] wr fun e w' => e = .returned (.int .i64 0) ∧ wr = w') := held_any fb (L : Int) _ v _ [] wr hCr hor
            have hNd : Hid (Calls Try.prog 12 #[.pointer (some ⟨fb, 0, none⟩)] wr fun e w' => e = .returned (.int .i64 2) ∧ Below wr.heap.size wr w') := needM_any fb (L : Int) _ v _ [] wr hCr hor (by rw [FrMath.look_nil]; decide) (by decide)
            have hgo' : Hid (OwnS wr w3.heap.size u10 gms) := hgo.out
            have hwtr' : Hid (OwnS wr w.heap.size (.slice la gms.length lc) gms) := hwtr
            clear hgms hst hCr hor hpr hdn htl hap hlow hgo hwtr hwt3
            go_wp2_with fail
            refine hHd.out.mono ?_
            rintro e w8 ⟨rfl, rfl⟩
            go_wp2_with fail
            refine hNd.out.mono ?_
            rintro e w8 ⟨rfl, hb8⟩
            have HB8 : Below w.heap.size w w8 := HB.trans (hb8.mono HB.size)
            have hsm : Hid (Calls Try.prog 15 #[u10, .slice la gms.length lc] w8 fun r w' => r = .returned (.bool true) ∧ Below w8.heap.size w8 w') := same_any gms _ _ _ _ w8 hwl.out (ownS_below hgo'.out hb8) (ownS_below hwtr'.out hb8)
            clear hb8
            go_wp2_with fail
            refine hsm.out.mono ?_
            rintro e w9 ⟨rfl, hb9⟩
            go_wp2_with fail
            go_ret
            exact ⟨rfl, HB8.trans (hb9.mono HB8.size)⟩
end Go.Proofs.Ytddkefjcpgdomab
