import Derived.Test.YtddkefjcpgdomabFrRFr
namespace Go.Proofs.Ytddkefjcpgdomab
open Go.RowKit
open FrMath (Hdr lb bd within Out ends cut Cut)

set_option maxRecDepth 100000 in
set_option maxHeartbeats 400000 in
theorem refFeed_any (gb : Nat) (lim : Int) (p c s : ByteArray) (k : Nat) (w : World) (hC : Cells w gb (rfL lim p k)) (hs : p ++ c = s) (hm : s.size ≤ 4194304) (hk : k ≤ (Cut lim s.data.toList).ms.length) :
    Calls Try.prog 29 #[.pointer (some ⟨gb, 0, none⟩), .string c] w fun e w' => (∃ nv, e = .returned (.tuple #[nv, .int .i64 ((Cut lim s.data.toList).er : Int)]) ∧ PartS w' w.heap.size nv k (Cut lim s.data.toList).ms) ∧ Cells w' gb (rfL lim s (Cut lim s.data.toList).ms.length) ∧ Below 0 w w' ∧ ∀ x, x < w.heap.size → x ≠ gb → w'.heap[x]? = w.heap[x]? := by
  have H1 : ∀ W, Hid (Calls Try.prog 48 #[.int .i64 lim, .string s] W fun r w' => cutQ (Cut lim s.data.toList) W.heap.size r w' ∧ Below W.heap.size W w') := fun W => refSplit_any lim s W (by omega)
  have hgb : gb < w.heap.size := hC.lt
  obtain ⟨c0, c1, c2, z0, z1, z2⟩ := cells3 hC
  have hpc : p.size + c.size ≤ 4194304 := by rw [← hs, ByteArray.size_append] at hm; exact hm
  have hl := FrMath.cut_len lim (s.data.toList.length + 1) s.data.toList
  rw [size_l] at hl
  have hlen : (Cut lim s.data.toList).ms.length ≤ 4194304 := by
    unfold FrMath.Cut
    rw [size_l]
    omega
  clear hl
  generalize Cut lim s.data.toList = o at *
  obtain ⟨ms, at_, er⟩ := o
  simp only at *
  go_enter Try.func29, Try.ntmps29
  go_wp2_with fail
  have hCs : Cells (w.setCell ⟨gb, 1, none⟩ (.string s)) gb (rfL lim s k) := hC.set 1 (by simp) (.string s)
  have hNs : Hid ((w.setCell ⟨gb, 1, none⟩ (.string s)).heap.size = w.heap.size) := by unfold Hid; simp
  have hB9 : Hid (Below 0 w (w.setCell ⟨gb, 1, none⟩ (.string s))) := Below.setCell (Below.refl _ _) (Nat.zero_le _) _
  have hKs : ∀ x, x ≠ gb → Hid ((w.setCell ⟨gb, 1, none⟩ (.string s)).heap[x]? = w.heap[x]?) := fun x hx => by unfold Hid; exact Below.heap_setCell _ _ _ _ hx
  clear hC hgb c0 c1 c2 z0 z1 z2 hs
  generalize w.setCell ⟨gb, 1, none⟩ (.string s) = ws at *
  have hC := hCs
  clear hCs
  have hgb : gb < ws.heap.size := hC.lt
  obtain ⟨c0, c1, c2, _, _, _⟩ := cells3 hC
  have hSW : ws.cell? ⟨gb, 0, none⟩ = some (.int .i64 lim) ∧ ws.cell? ⟨gb, 1, none⟩ = some (.string s) := ⟨c0, c1⟩
  refine wp_region_noPanic ?_
  refine wp_region_held_drew (S := fun W => W.cell? ⟨gb, 0, none⟩ = some (.int .i64 lim) ∧ W.cell? ⟨gb, 1, none⟩ = some (.string s)) (by kernel_rfl) hSW (fun _ => ?_)
  have hC0 : Cells ws.drew gb (rfL lim s k) := hC
  have hgb0 : gb < ws.drew.heap.size := hgb
  have hN0 : Hid (ws.drew.heap.size = ws.heap.size) := rfl
  have hB0 : Below ws.heap.size ws ws.drew := (Below.refl _ _).drew
  replace hSW : ws.drew.cell? ⟨gb, 0, none⟩ = some (.int .i64 lim) ∧ ws.drew.cell? ⟨gb, 1, none⟩ = some (.string s) := hSW
  clear hC hgb c0 c1 c2
  have hC := hC0
  have hgb := hgb0
  clear hC0 hgb0
  generalize ws.drew = w0 at *
  refine wpAnyH_take (i := 0) (v := ?va25) (by simp only [List.getElem?_toArray, List.getElem?_cons_zero]; exact rfl) (by kernel_rfl) (by kernel_rfl) (by kernel_rfl) (fun _ _ _ h => h) (Or.inl ⟨by rfl, ?ya25⟩) hSW ?ra25
  case ya25 =>
    intro w' hS
    obtain ⟨s0, s1⟩ := hS
    go_simp
    try with_reducible rfl
  case ra25 =>
  simp only [Act.put, List.setIfInBounds_toArray, List.set_cons_zero, List.set_cons_succ]
  refine wpAnyH_take (i := 1) (v := ?va26) (by simp only [List.getElem?_toArray, List.getElem?_cons_zero, List.getElem?_cons_succ]; exact rfl) (by kernel_rfl) (by kernel_rfl) (by kernel_rfl) (fun _ _ _ h => h) (Or.inl ⟨by rfl, ?ya26⟩) hSW ?ra26
  case ya26 =>
    intro w' hS
    obtain ⟨s0, s1⟩ := hS
    go_simp
    try with_reducible rfl
  case ra26 =>
  simp only [Act.put, List.setIfInBounds_toArray, List.set_cons_zero, List.set_cons_succ]
  refine wpAnyH_take (i := 2) (v := ?va27) (by simp only [List.getElem?_toArray, List.getElem?_cons_zero, List.getElem?_cons_succ]; exact rfl) (by kernel_rfl) (by kernel_rfl) (by kernel_rfl) (fun _ _ _ h => h) (Or.inl ⟨by rfl, ?ya27⟩) hSW ?ra27
  case ya27 =>
    intro w' hS
    obtain ⟨s0, s1⟩ := hS
    go_simp
    try with_reducible rfl
  case ra27 =>
  simp only [Act.put, List.setIfInBounds_toArray, List.set_cons_zero, List.set_cons_succ]
  refine wpAnyH_take (i := 3) (v := ?va28) (by simp only [List.getElem?_toArray, List.getElem?_cons_zero, List.getElem?_cons_succ]; exact rfl) (by kernel_rfl) (by kernel_rfl) (by kernel_rfl) (fun _ _ _ h => h) (Or.inl ⟨by rfl, ?ya28⟩) hSW ?ra28
  case ya28 =>
    intro w' hS
    obtain ⟨s0, s1⟩ := hS
    go_simp
    try with_reducible rfl
  case ra28 =>
  simp only [Act.put, List.setIfInBounds_toArray, List.set_cons_zero, List.set_cons_succ]
  refine wpAnyH_take (i := 4) (v := ?va29) (by simp only [List.getElem?_toArray, List.getElem?_cons_zero, List.getElem?_cons_succ]; exact rfl) (by kernel_rfl) (by kernel_rfl) (by kernel_rfl) (fun _ _ _ h => h) (Or.inl ⟨by rfl, ?ya29⟩) hSW ?ra29
  case ya29 =>
    intro w' hS
    obtain ⟨s0, s1⟩ := hS
    go_simp
    try with_reducible rfl
  case ra29 =>
  simp only [Act.put, List.setIfInBounds_toArray, List.set_cons_zero, List.set_cons_succ]
  refine wpAnyH_take (i := 5) (v := ?va30) (by simp only [List.getElem?_toArray, List.getElem?_cons_zero, List.getElem?_cons_succ]; exact rfl) (by kernel_rfl) (by kernel_rfl) (by kernel_rfl) (fun _ _ _ h => h) (Or.inl ⟨by rfl, ?ya30⟩) hSW ?ra30
  case ya30 =>
    intro w' hS
    obtain ⟨s0, s1⟩ := hS
    go_simp
    try with_reducible rfl
  case ra30 =>
  simp only [Act.put, List.setIfInBounds_toArray, List.set_cons_zero, List.set_cons_succ]
  refine wpAnyH_take (i := 6) (v := ?va31) (by simp only [List.getElem?_toArray, List.getElem?_cons_zero, List.getElem?_cons_succ]; exact rfl) (by kernel_rfl) (by kernel_rfl) (by kernel_rfl) (fun _ _ _ h => h) (Or.inl ⟨by rfl, ?ya31⟩) hSW ?ra31
  case ya31 =>
    intro w' hS
    obtain ⟨s0, s1⟩ := hS
    go_simp
    try with_reducible rfl
  case ra31 =>
  simp only [Act.put, List.setIfInBounds_toArray, List.set_cons_zero, List.set_cons_succ]
  refine wpAnyH_take (i := 7) (v := ?va32) (by simp only [List.getElem?_toArray, List.getElem?_cons_zero, List.getElem?_cons_succ]; exact rfl) (by kernel_rfl) (by kernel_rfl) (by kernel_rfl) (fun _ _ _ h => h) (Or.inl ⟨by rfl, ?ya32⟩) hSW ?ra32
  case ya32 =>
    intro w' hS
    obtain ⟨s0, s1⟩ := hS
    go_simp
    try with_reducible rfl
  case ra32 =>
  simp only [Act.put, List.setIfInBounds_toArray, List.set_cons_zero, List.set_cons_succ]
  refine wpAnyH_ready (rs := [8, 9]) (by kernel_rfl) (by simp) ?_
  refine AllReadyH.cons (by simp only [List.getElem?_toArray, List.getElem?_cons_zero, List.getElem?_cons_succ]; exact rfl) (fun K hK => ?_) (AllReadyH.cons (by simp only [List.getElem?_toArray, List.getElem?_cons_zero, List.getElem?_cons_succ]; exact rfl) (fun K hK => ?_) AllReadyH.nil)
  · go_simp
    refine (H1 _).out.mono ?_
    rintro r w1 ⟨⟨v, rfl, hown⟩, hb1⟩
    obtain ⟨ad, ln, cp, rfl⟩ := ownS_slice hown
    have hC1 := hC.of_block (hb1.block gb hgb)
    obtain ⟨a0, a1, a2, _, _, _⟩ := cells3 hC1
    refine hK.out _ _ ⟨a0, a1⟩ (fun _ => ?_)
    clear hK K
    refine wpAnyH_ready (rs := [9]) (by kernel_rfl) (by simp) ?_
    refine AllReadyH.cons (by simp only [List.getElem?_toArray, List.getElem?_cons_zero, List.getElem?_cons_succ]; exact rfl) (fun K hK => ?_) AllReadyH.nil
    go_simp
    have hgb1 : gb < w1.heap.size := hC1.lt
    have hC2 : Cells (w1.alloc (.cells #[.slice none 0 0, .int .i64 0, .int .i64 0] 102)) gb (rfL lim s k) := hC1.of_block (Below.heap_alloc _ _ _ hgb1)
    obtain ⟨b0, b1, b2, _, _, _⟩ := cells3 hC2
    refine hK.out _ _ ⟨b0, b1⟩ (fun _ => ?_)
    clear hK K
    refine wpAnyH_ready (rs := [10]) (by kernel_rfl) (by simp) ?_
    refine AllReadyH.cons (by simp only [List.getElem?_toArray, List.getElem?_cons_zero, List.getElem?_cons_succ]; exact rfl) (fun K hK => ?_) AllReadyH.nil
    go_simp
    have hCt : Cells (w1.alloc (.cells #[.slice ad ln cp, .int .i64 (at_ : Int), .int .i64 (er : Int)] 102)) gb (rfL lim s k) := hC1.of_block (Below.heap_alloc _ _ _ hgb1)
    have hDt : Cells (w1.alloc (.cells #[.slice ad ln cp, .int .i64 (at_ : Int), .int .i64 (er : Int)] 102)) w1.heap.size (cutL (.slice ad ln cp) at_ er) := cells3_new w1 _ _ _ _
    have hOt : OwnS (w1.alloc (.cells #[.slice ad ln cp, .int .i64 (at_ : Int), .int .i64 (er : Int)] 102)) w0.heap.size (.slice ad ln cp) ms := World.ownsRow.alloc hown _
    have hBt : Below w0.heap.size w0 (w1.alloc (.cells #[.slice ad ln cp, .int .i64 (at_ : Int), .int .i64 (er : Int)] 102)) := hb1.alloc hb1.size _
    have hAt : ∀ x, (Value.slice ad ln cp).ownBlock = some x → x ≠ w1.heap.size := fun x hx => by have := (hown.lt _ hx).2; omega
    have hDl : w0.heap.size ≤ w1.heap.size := hb1.size
    obtain ⟨b0, b1, b2, _, _, _⟩ := cells3 hCt
    refine hK.out _ _ ⟨b0, b1⟩ (fun _ => ?_)
    clear hK K
    refine wpAnyH_done (by kernel_rfl) ?_ _
    refine NoPanic.normal ?_
    clear hC2 hC1 hown hb1 hgb1
    generalize (w1.alloc (.cells #[.slice ad ln cp, .int .i64 (at_ : Int), .int .i64 (er : Int)] 102)) = W at *
    generalize w1.heap.size = D at *
    replace hBt : Below ws.heap.size ws W := hB0.trans (hBt.mono (by have := hN0.out; omega))
    obtain ⟨t0, t1, t2, f0, f1, f2⟩ := cells3 hCt
    obtain ⟨d0, d1, d2, _, _, _⟩ := cells3 hDt
    have hDg : D ≠ gb := by omega
    have hgD : gb ≠ D := by omega
    replace hOt := ownS_base hOt (show w.heap.size ≤ w0.heap.size by have := hN0.out; have := hNs.out; omega)
    have k0 : (0 : Int) ≤ (k : Int) := Int.natCast_nonneg _
    have k1 : (k : Int) ≤ (ms.length : Int) := Int.ofNat_le.2 hk
    have hgw : gb < w.heap.size := by have := hN0.out; have := hNs.out; omega
    rcases ownS_form hOt with ⟨h1, rfl⟩ | ⟨g, cap, h1⟩
    · injection h1 with ha hn hc
      subst ha hn hc
      have hk0 : k = 0 := by simpa using hk
      subst hk0
      clear k0 k1 hk
      go_wp2_with fail
      go_quiet (fail)
      go_wp2_with fail
      go_quiet (fail)
      go_wp2_with fail
      go_ret2
      refine ⟨⟨_, rfl, none, 0, rfl, Or.inl (Nat.le_refl _)⟩, ?_, ?_, ?_⟩
      · exact (show Cells (W.drewN _) gb (rfL lim s _) from hCt).set 2 (by simp) _
      · exact below_drewN (Below.setCell (below_drewN (hB9.out.trans (hBt.mono (Nat.zero_le _))) _) (Nat.zero_le _) _) _
      · intro x hx hxg
        have h3 := hBt.block x (by have := hNs.out; omega)
        exact (Below.heap_setCell (W.drewN _) ⟨gb, 2, none⟩ _ x hxg).trans (h3.trans (hKs x hxg).out)
    · injection h1 with ha hn hc
      subst ha hn hc
      obtain ⟨hcp, hg1, hg2⟩ := ownS_cap hOt
      have hgD2 := hAt g rfl
      have hcl := fun j hj => ownS_cell hOt j hj
      by_cases hck : cp = k
      · subst hck
        go_wp2_with fail
        go_quiet (fail)
        go_wp2_with fail
        go_quiet (fail)
        go_wp2_with fail
        go_ret2
        refine ⟨⟨_, rfl, some ⟨g, 0, none⟩, 0, by rw [Nat.sub_eq_zero_of_le hcp]; rfl, Or.inl hcp⟩, ?_, ?_, ?_⟩
        · exact (show Cells (W.drewN _) gb (rfL lim s _) from hCt).set 2 (by simp) _
        · exact below_drewN (Below.setCell (below_drewN (hB9.out.trans (hBt.mono (Nat.zero_le _))) _) (Nat.zero_le _) _) _
        · intro x hx hxg
          have h3 := hBt.block x (by have := hNs.out; omega)
          exact (Below.heap_setCell (W.drewN _) ⟨gb, 2, none⟩ _ x hxg).trans (h3.trans (hKs x hxg).out)
      · go_wp2_with fail
        go_quiet (fail)
        go_wp2_with fail
        go_quiet (fail)
        go_wp2_with fail
        go_ret2
        refine ⟨⟨_, rfl, _, _, rfl, Or.inr ⟨g, rfl, hg1, by simpa using hg2, fun j hj => by rw [← hcl j hj]; exact World.cell?_of_block (Below.heap_setCell _ _ _ _ (by show g ≠ gb; omega))⟩⟩, ?_, ?_, ?_⟩
        · exact (show Cells (W.drewN _) gb (rfL lim s _) from hCt).set 2 (by simp) _
        · exact below_drewN (Below.setCell (below_drewN (hB9.out.trans (hBt.mono (Nat.zero_le _))) _) (Nat.zero_le _) _) _
        · intro x hx hxg
          have h3 := hBt.block x (by have := hNs.out; omega)
          exact (Below.heap_setCell (W.drewN _) ⟨gb, 2, none⟩ _ x hxg).trans (h3.trans (hKs x hxg).out)
  · go_simp
    have hC1 : Cells (w0.alloc (.cells #[.slice none 0 0, .int .i64 0, .int .i64 0] 102)) gb (rfL lim s k) := hC.of_block (Below.heap_alloc _ _ _ hgb)
    have hgb1 : gb < (w0.alloc (.cells #[.slice none 0 0, .int .i64 0, .int .i64 0] 102)).heap.size := hC1.lt
    have hD1 : Cells (w0.alloc (.cells #[.slice none 0 0, .int .i64 0, .int .i64 0] 102)) w0.heap.size (cutL (.slice none 0 0) 0 0) := cells3_new w0 _ _ _ _
    have B1 : Below w0.heap.size w0 (w0.alloc (.cells #[.slice none 0 0, .int .i64 0, .int .i64 0] 102)) := (Below.refl _ _).alloc (Nat.le_refl _) _
    have N1 : w0.heap.size < (w0.alloc (.cells #[.slice none 0 0, .int .i64 0, .int .i64 0] 102)).heap.size := hD1.lt
    obtain ⟨a0, a1, a2, _, _, _⟩ := cells3 hC1
    refine hK.out _ _ ⟨a0, a1⟩ (fun _ => ?_)
    clear hK K a0 a1 a2
    generalize (w0.alloc (.cells #[.slice none 0 0, .int .i64 0, .int .i64 0] 102)) = w1 at *
    refine wpAnyH_ready (rs := [8]) (by kernel_rfl) (by simp) ?_
    refine AllReadyH.cons (by simp only [List.getElem?_toArray, List.getElem?_cons_zero, List.getElem?_cons_succ]; exact rfl) (fun K hK => ?_) AllReadyH.nil
    go_simp
    refine (H1 _).out.mono ?_
    rintro r w2 ⟨⟨v, rfl, hown⟩, hb2⟩
    obtain ⟨ad, ln, cp, rfl⟩ := ownS_slice hown
    have hC2 := hC1.of_block (hb2.block gb hgb1)
    have hD2 := hD1.of_block (hb2.block _ hD1.lt)
    obtain ⟨b0, b1, b2, _, _, _⟩ := cells3 hC2
    refine hK.out _ _ ⟨b0, b1⟩ (fun _ => ?_)
    clear hK K
    refine wpAnyH_ready (rs := [10]) (by kernel_rfl) (by simp) ?_
    refine AllReadyH.cons (by simp only [List.getElem?_toArray, List.getElem?_cons_zero, List.getElem?_cons_succ]; exact rfl) (fun K hK => ?_) AllReadyH.nil
    obtain ⟨d0, d1, d2, x0, x1, x2⟩ := cells3 hD2
    go_simp
    have hx : ∀ x, x ≠ w0.heap.size → (((w2.setCell ⟨w0.heap.size, 0, none⟩ (.slice ad ln cp)).setCell ⟨w0.heap.size, 1, none⟩ (.int .i64 (at_ : Int))).setCell ⟨w0.heap.size, 2, none⟩ (.int .i64 (er : Int))).heap[x]? = w2.heap[x]? := fun x hx => by rw [Below.heap_setCell _ _ _ _ hx, Below.heap_setCell _ _ _ _ hx, Below.heap_setCell _ _ _ _ hx]
    have hCt : Cells (((w2.setCell ⟨w0.heap.size, 0, none⟩ (.slice ad ln cp)).setCell ⟨w0.heap.size, 1, none⟩ (.int .i64 (at_ : Int))).setCell ⟨w0.heap.size, 2, none⟩ (.int .i64 (er : Int))) gb (rfL lim s k) := hC2.of_block (hx gb (by omega))
    have hDt : Cells (((w2.setCell ⟨w0.heap.size, 0, none⟩ (.slice ad ln cp)).setCell ⟨w0.heap.size, 1, none⟩ (.int .i64 (at_ : Int))).setCell ⟨w0.heap.size, 2, none⟩ (.int .i64 (er : Int))) w0.heap.size (cutL (.slice ad ln cp) at_ er) := ((hD2.set 0 (by simp) (.slice ad ln cp)).set 1 (by simp) (.int .i64 (at_ : Int))).set 2 (by simp) (.int .i64 (er : Int))
    have hOt : OwnS (((w2.setCell ⟨w0.heap.size, 0, none⟩ (.slice ad ln cp)).setCell ⟨w0.heap.size, 1, none⟩ (.int .i64 (at_ : Int))).setCell ⟨w0.heap.size, 2, none⟩ (.int .i64 (er : Int))) w0.heap.size (.slice ad ln cp) ms := ownS_base (ownS_block hown (fun g hg _ => hx g (by omega))) (by omega)
    have hBt : Below w0.heap.size w0 (((w2.setCell ⟨w0.heap.size, 0, none⟩ (.slice ad ln cp)).setCell ⟨w0.heap.size, 1, none⟩ (.int .i64 (at_ : Int))).setCell ⟨w0.heap.size, 2, none⟩ (.int .i64 (er : Int))) := by
      have hy : Below w0.heap.size w0 w2 := B1.trans (hb2.mono (by omega))
      refine Below.setCell (Below.setCell (Below.setCell hy ?_ _) ?_ _) ?_ _ <;> exact Nat.le_refl _
    have hAt : ∀ x, (Value.slice ad ln cp).ownBlock = some x → x ≠ w0.heap.size := fun x hx => by have := (hown.lt _ hx).1; omega
    have hDl : w0.heap.size ≤ w0.heap.size := Nat.le_refl _
    clear b0 b1 b2 d0 d1 d2 x0 x1 x2
    obtain ⟨b0, b1, b2, _, _, _⟩ := cells3 hCt
    refine hK.out _ _ ⟨b0, b1⟩ (fun _ => ?_)
    clear hK K
    refine wpAnyH_done (by kernel_rfl) ?_ _
    refine NoPanic.normal ?_
    clear hx hC2 hD2 hC1 hD1 hown hb2 hgb1 B1 N1
    generalize (((w2.setCell ⟨w0.heap.size, 0, none⟩ (.slice ad ln cp)).setCell ⟨w0.heap.size, 1, none⟩ (.int .i64 (at_ : Int))).setCell ⟨w0.heap.size, 2, none⟩ (.int .i64 (er : Int))) = W at *
    obtain ⟨D, hDD⟩ : ∃ D, w0.heap.size = D := ⟨_, rfl⟩
    rw [hDD] at hDt hAt ⊢
    replace hDl : w0.heap.size ≤ D := by omega
    clear hDD
    replace hBt : Below ws.heap.size ws W := hB0.trans (hBt.mono (by have := hN0.out; omega))
    obtain ⟨t0, t1, t2, f0, f1, f2⟩ := cells3 hCt
    obtain ⟨d0, d1, d2, _, _, _⟩ := cells3 hDt
    have hDg : D ≠ gb := by omega
    have hgD : gb ≠ D := by omega
    replace hOt := ownS_base hOt (show w.heap.size ≤ w0.heap.size by have := hN0.out; have := hNs.out; omega)
    have k0 : (0 : Int) ≤ (k : Int) := Int.natCast_nonneg _
    have k1 : (k : Int) ≤ (ms.length : Int) := Int.ofNat_le.2 hk
    have hgw : gb < w.heap.size := by have := hN0.out; have := hNs.out; omega
    rcases ownS_form hOt with ⟨h1, rfl⟩ | ⟨g, cap, h1⟩
    · injection h1 with ha hn hc
      subst ha hn hc
      have hk0 : k = 0 := by simpa using hk
      subst hk0
      clear k0 k1 hk
      go_wp2_with fail
      go_quiet (fail)
      go_wp2_with fail
      go_quiet (fail)
      go_wp2_with fail
      go_ret2
      refine ⟨⟨_, rfl, none, 0, rfl, Or.inl (Nat.le_refl _)⟩, ?_, ?_, ?_⟩
      · exact (show Cells (W.drewN _) gb (rfL lim s _) from hCt).set 2 (by simp) _
      · exact below_drewN (Below.setCell (below_drewN (hB9.out.trans (hBt.mono (Nat.zero_le _))) _) (Nat.zero_le _) _) _
      · intro x hx hxg
        have h3 := hBt.block x (by have := hNs.out; omega)
        exact (Below.heap_setCell (W.drewN _) ⟨gb, 2, none⟩ _ x hxg).trans (h3.trans (hKs x hxg).out)
    · injection h1 with ha hn hc
      subst ha hn hc
      obtain ⟨hcp, hg1, hg2⟩ := ownS_cap hOt
      have hgD2 := hAt g rfl
      have hcl := fun j hj => ownS_cell hOt j hj
      by_cases hck : cp = k
      · subst hck
        go_wp2_with fail
        go_quiet (fail)
        go_wp2_with fail
        go_quiet (fail)
        go_wp2_with fail
        go_ret2
        refine ⟨⟨_, rfl, some ⟨g, 0, none⟩, 0, by rw [Nat.sub_eq_zero_of_le hcp]; rfl, Or.inl hcp⟩, ?_, ?_, ?_⟩
        · exact (show Cells (W.drewN _) gb (rfL lim s _) from hCt).set 2 (by simp) _
        · exact below_drewN (Below.setCell (below_drewN (hB9.out.trans (hBt.mono (Nat.zero_le _))) _) (Nat.zero_le _) _) _
        · intro x hx hxg
          have h3 := hBt.block x (by have := hNs.out; omega)
          exact (Below.heap_setCell (W.drewN _) ⟨gb, 2, none⟩ _ x hxg).trans (h3.trans (hKs x hxg).out)
      · go_wp2_with fail
        go_quiet (fail)
        go_wp2_with fail
        go_quiet (fail)
        go_wp2_with fail
        go_ret2
        refine ⟨⟨_, rfl, _, _, rfl, Or.inr ⟨g, rfl, hg1, by simpa using hg2, fun j hj => by rw [← hcl j hj]; exact World.cell?_of_block (Below.heap_setCell _ _ _ _ (by show g ≠ gb; omega))⟩⟩, ?_, ?_, ?_⟩
        · exact (show Cells (W.drewN _) gb (rfL lim s _) from hCt).set 2 (by simp) _
        · exact below_drewN (Below.setCell (below_drewN (hB9.out.trans (hBt.mono (Nat.zero_le _))) _) (Nat.zero_le _) _) _
        · intro x hx hxg
          have h3 := hBt.block x (by have := hNs.out; omega)
          exact (Below.heap_setCell (W.drewN _) ⟨gb, 2, none⟩ _ x hxg).trans (h3.trans (hKs x hxg).out)
end Go.Proofs.Ytddkefjcpgdomab
