import Derived.Test.YtddkefjcpgdomabFrRSplit
import Derived.Test.YtddkefjcpgdomabFrNeed
import Derived.BigQuiet
namespace Go.Proofs.Ytddkefjcpgdomab
open Go.RowKit
open FrMath (Hdr lb bd within Out ends cut Cut)

/-- The reference's framer. -/
abbrev rfL (lim : Int) (all : ByteArray) (k : Nat) : List Value := [.int .i64 lim, .string all, .int .i64 (k : Int)]
/-- A row of texts from its k-th on. -/
def PartS (w : World) (B : Nat) (v : Value) (k : Nat) (ms : List (List UInt8)) : Prop :=
  ∃ a c, v = .slice a (ms.length - k) c ∧ (ms.length ≤ k ∨ ∃ g, a = some ⟨g, k, none⟩ ∧ B ≤ g ∧ g < w.heap.size ∧ ∀ j (hj : j < ms.length), w.cell? ⟨g, j, none⟩ = some (.string (S ms[j])))
theorem ownS_cap {w : World} {B g n cap : Nat} {l : List (List UInt8)} (h : OwnS w B (.slice (some ⟨g, 0, none⟩) n cap) l) : n ≤ cap ∧ B ≤ g ∧ g < w.heap.size := by
  have hb := h.lt g rfl
  rcases h with ⟨_, ⟨h1, _⟩ | ⟨g', cap', cur, h1, _, _, h5, _⟩⟩
  · injection h1 with h1
    cases h1
  · injection h1 with h1 h2 h3
    subst h2 h3
    exact ⟨h5, hb.1, hb.2⟩

set_option maxRecDepth 100000 in
set_option maxHeartbeats 400000 in
theorem refNew_any (lim : Int) (w : World) :
    Calls Try.prog 16 #[.int .i64 lim] w fun e w' => e = .returned (.pointer (some ⟨w.heap.size, 0, none⟩)) ∧ w'.heap.size = w.heap.size + 1 ∧ Cells w' w.heap.size (rfL lim ⟨#[]⟩ 0) ∧ Below w.heap.size w w' := by
  go_enter Try.func16, Try.ntmps16
  go_wp2_with fail
  go_ret
  exact ⟨rfl, by simp, cells3_new w _ _ _ _, (Below.refl _ _).alloc (Nat.le_refl _) _⟩

set_option maxRecDepth 100000 in
set_option maxHeartbeats 400000 in
theorem refHeld_any (gb : Nat) (lim : Int) (s : ByteArray) (k : Nat) (w : World) (hC : Cells w gb (rfL lim s k)) (hm : s.size ≤ 4194304) :
    Calls Try.prog 30 #[.pointer (some ⟨gb, 0, none⟩)] w fun e w' => e = .returned (.int .i64 ((if (Cut lim s.data.toList).er = 0 then s.size - (Cut lim s.data.toList).at_ else 0 : Nat) : Int)) ∧ Below w.heap.size w w' := by
  have H1 : ∀ W, Hid (Calls Try.prog 48 #[.int .i64 lim, .string s] W fun r w' => cutQ (Cut lim s.data.toList) W.heap.size r w' ∧ Below W.heap.size W w') := fun W => refSplit_any lim s W (by omega)
  have hgb : gb < w.heap.size := hC.lt
  obtain ⟨c0, c1, c2, _, _, _⟩ := cells3 hC
  have hSW : w.cell? ⟨gb, 0, none⟩ = some (.int .i64 lim) ∧ w.cell? ⟨gb, 1, none⟩ = some (.string s) := ⟨c0, c1⟩
  have hat : (Cut lim s.data.toList).at_ ≤ s.size := by have := (FrMath.cut_len lim (s.data.toList.length + 1) s.data.toList).2; rw [size_l] at this; unfold FrMath.Cut; rw [size_l]; exact this
  generalize Cut lim s.data.toList = o at *
  obtain ⟨ms, at_, er⟩ := o
  simp only at *
  obtain ⟨q, hq⟩ : ∃ q, Hid ((if er = 0 then s.size - at_ else 0) = q) := ⟨_, rfl⟩
  rw [hq.out]
  go_enter Try.func30, Try.ntmps30
  go_wp2_with fail
  refine wp_region_noPanic ?_
  refine wp_region_held_drew (S := fun W => W.cell? ⟨gb, 0, none⟩ = some (.int .i64 lim) ∧ W.cell? ⟨gb, 1, none⟩ = some (.string s)) (by kernel_rfl) hSW (fun _ => ?_)
  have hC0 : Cells w.drew gb (rfL lim s k) := hC
  have hgb0 : gb < w.drew.heap.size := hgb
  have hN0 : Hid (w.drew.heap.size = w.heap.size) := rfl
  have hB0 : Below w.heap.size w w.drew := (Below.refl _ _).drew
  replace hSW : w.drew.cell? ⟨gb, 0, none⟩ = some (.int .i64 lim) ∧ w.drew.cell? ⟨gb, 1, none⟩ = some (.string s) := hSW
  clear hC hgb c0 c1 c2
  have hC := hC0
  have hgb := hgb0
  clear hC0 hgb0
  generalize w.drew = w0 at *
  refine wpAnyH_take (i := 0) (v := ?va1) (by simp only [List.getElem?_toArray, List.getElem?_cons_zero]; exact rfl) (by kernel_rfl) (by kernel_rfl) (by kernel_rfl) (fun _ _ _ h => h) (Or.inl ⟨by rfl, ?ya1⟩) hSW ?ra1
  case ya1 =>
    intro w' hS
    obtain ⟨s0, s1⟩ := hS
    go_simp
    try with_reducible rfl
  case ra1 =>
  simp only [Act.put, List.setIfInBounds_toArray, List.set_cons_zero, List.set_cons_succ]
  refine wpAnyH_take (i := 1) (v := ?va2) (by simp only [List.getElem?_toArray, List.getElem?_cons_zero, List.getElem?_cons_succ]; exact rfl) (by kernel_rfl) (by kernel_rfl) (by kernel_rfl) (fun _ _ _ h => h) (Or.inl ⟨by rfl, ?ya2⟩) hSW ?ra2
  case ya2 =>
    intro w' hS
    obtain ⟨s0, s1⟩ := hS
    go_simp
    try with_reducible rfl
  case ra2 =>
  simp only [Act.put, List.setIfInBounds_toArray, List.set_cons_zero, List.set_cons_succ]
  refine wpAnyH_take (i := 2) (v := ?va3) (by simp only [List.getElem?_toArray, List.getElem?_cons_zero, List.getElem?_cons_succ]; exact rfl) (by kernel_rfl) (by kernel_rfl) (by kernel_rfl) (fun _ _ _ h => h) (Or.inl ⟨by rfl, ?ya3⟩) hSW ?ra3
  case ya3 =>
    intro w' hS
    obtain ⟨s0, s1⟩ := hS
    go_simp
    try with_reducible rfl
  case ra3 =>
  simp only [Act.put, List.setIfInBounds_toArray, List.set_cons_zero, List.set_cons_succ]
  refine wpAnyH_take (i := 3) (v := ?va4) (by simp only [List.getElem?_toArray, List.getElem?_cons_zero, List.getElem?_cons_succ]; exact rfl) (by kernel_rfl) (by kernel_rfl) (by kernel_rfl) (fun _ _ _ h => h) (Or.inl ⟨by rfl, ?ya4⟩) hSW ?ra4
  case ya4 =>
    intro w' hS
    obtain ⟨s0, s1⟩ := hS
    go_simp
    try with_reducible rfl
  case ra4 =>
  simp only [Act.put, List.setIfInBounds_toArray, List.set_cons_zero, List.set_cons_succ]
  refine wpAnyH_take (i := 4) (v := ?va5) (by simp only [List.getElem?_toArray, List.getElem?_cons_zero, List.getElem?_cons_succ]; exact rfl) (by kernel_rfl) (by kernel_rfl) (by kernel_rfl) (fun _ _ _ h => h) (Or.inl ⟨by rfl, ?ya5⟩) hSW ?ra5
  case ya5 =>
    intro w' hS
    obtain ⟨s0, s1⟩ := hS
    go_simp
    try with_reducible rfl
  case ra5 =>
  simp only [Act.put, List.setIfInBounds_toArray, List.set_cons_zero, List.set_cons_succ]
  refine wpAnyH_take (i := 5) (v := ?va6) (by simp only [List.getElem?_toArray, List.getElem?_cons_zero, List.getElem?_cons_succ]; exact rfl) (by kernel_rfl) (by kernel_rfl) (by kernel_rfl) (fun _ _ _ h => h) (Or.inl ⟨by rfl, ?ya6⟩) hSW ?ra6
  case ya6 =>
    intro w' hS
    obtain ⟨s0, s1⟩ := hS
    go_simp
    try with_reducible rfl
  case ra6 =>
  simp only [Act.put, List.setIfInBounds_toArray, List.set_cons_zero, List.set_cons_succ]
  refine wpAnyH_take (i := 6) (v := ?va7) (by simp only [List.getElem?_toArray, List.getElem?_cons_zero, List.getElem?_cons_succ]; exact rfl) (by kernel_rfl) (by kernel_rfl) (by kernel_rfl) (fun _ _ _ h => h) (Or.inl ⟨by rfl, ?ya7⟩) hSW ?ra7
  case ya7 =>
    intro w' hS
    obtain ⟨s0, s1⟩ := hS
    go_simp
    try with_reducible rfl
  case ra7 =>
  simp only [Act.put, List.setIfInBounds_toArray, List.set_cons_zero, List.set_cons_succ]
  refine wpAnyH_take (i := 7) (v := ?va8) (by simp only [List.getElem?_toArray, List.getElem?_cons_zero, List.getElem?_cons_succ]; exact rfl) (by kernel_rfl) (by kernel_rfl) (by kernel_rfl) (fun _ _ _ h => h) (Or.inl ⟨by rfl, ?ya8⟩) hSW ?ra8
  case ya8 =>
    intro w' hS
    obtain ⟨s0, s1⟩ := hS
    go_simp
    try with_reducible rfl
  case ra8 =>
  simp only [Act.put, List.setIfInBounds_toArray, List.set_cons_zero, List.set_cons_succ]
  refine wpAnyH_ready (rs := [8, 9]) (by kernel_rfl) (by simp) ?_
  refine AllReadyH.cons (by simp only [List.getElem?_toArray, List.getElem?_cons_zero, List.getElem?_cons_succ]; exact rfl) (fun K hK => ?_) (AllReadyH.cons (by simp only [List.getElem?_toArray, List.getElem?_cons_zero, List.getElem?_cons_succ]; exact rfl) (fun K hK => ?_) AllReadyH.nil)
  · go_simp
    refine (H1 _).out.mono ?_
    rintro r w1 ⟨⟨v, rfl, hown⟩, hb1⟩
    obtain ⟨ad, ln, cp, rfl⟩ := ownS_slice hown
    have hC1 := hC.of_block (hb1.block gb hgb)
    obtain ⟨a0, a1, a2, _, _, _⟩ := cells3 hC1
    refine hK.out _ _ ⟨a0, a1⟩ (fun _ => ?_)
    clear hK K
    refine wpAnyH_ready (rs := [9]) (by kernel_rfl) (by simp) ?_
    refine AllReadyH.cons (by simp only [List.getElem?_toArray, List.getElem?_cons_zero, List.getElem?_cons_succ]; exact rfl) (fun K hK => ?_) AllReadyH.nil
    go_simp
    have hgb1 : gb < w1.heap.size := hC1.lt
    have hC2 : Cells (w1.alloc (.cells #[.slice none 0 0, .int .i64 0, .int .i64 0] 102)) gb (rfL lim s k) := hC1.of_block (Below.heap_alloc _ _ _ hgb1)
    obtain ⟨b0, b1, b2, _, _, _⟩ := cells3 hC2
    refine hK.out _ _ ⟨b0, b1⟩ (fun _ => ?_)
    clear hK K
    refine wpAnyH_ready (rs := [10]) (by kernel_rfl) (by simp) ?_
    refine AllReadyH.cons (by simp only [List.getElem?_toArray, List.getElem?_cons_zero, List.getElem?_cons_succ]; exact rfl) (fun K hK => ?_) AllReadyH.nil
    go_simp
    have hCt : Cells (w1.alloc (.cells #[.slice ad ln cp, .int .i64 (at_ : Int), .int .i64 (er : Int)] 102)) gb (rfL lim s k) := hC1.of_block (Below.heap_alloc _ _ _ hgb1)
    have hDt : Cells (w1.alloc (.cells #[.slice ad ln cp, .int .i64 (at_ : Int), .int .i64 (er : Int)] 102)) w1.heap.size (cutL (.slice ad ln cp) at_ er) := cells3_new w1 _ _ _ _
    have hOt : OwnS (w1.alloc (.cells #[.slice ad ln cp, .int .i64 (at_ : Int), .int .i64 (er : Int)] 102)) w0.heap.size (.slice ad ln cp) ms := World.ownsRow.alloc hown _
    have hBt : Below w0.heap.size w0 (w1.alloc (.cells #[.slice ad ln cp, .int .i64 (at_ : Int), .int .i64 (er : Int)] 102)) := hb1.alloc hb1.size _
    have hAt : ∀ x, (Value.slice ad ln cp).ownBlock = some x → x ≠ w1.heap.size := fun x hx => by have := (hown.lt _ hx).2; omega
    have hDl : w0.heap.size ≤ w1.heap.size := hb1.size
    obtain ⟨b0, b1, b2, _, _, _⟩ := cells3 hCt
    refine hK.out _ _ ⟨b0, b1⟩ (fun _ => ?_)
    clear hK K
    refine wpAnyH_done (by kernel_rfl) ?_ _
    refine NoPanic.normal ?_
    clear hC2 hC1 hown hb1 hgb1
    generalize (w1.alloc (.cells #[.slice ad ln cp, .int .i64 (at_ : Int), .int .i64 (er : Int)] 102)) = W at *
    generalize w1.heap.size = D at *
    replace hBt : Below w.heap.size w W := hB0.trans (hBt.mono (by have := hN0.out; omega))
    obtain ⟨t0, t1, t2, f0, f1, f2⟩ := cells3 hCt
    obtain ⟨d0, d1, d2, _, _, _⟩ := cells3 hDt
    by_cases he : er = 0
    · subst he
      go_wp2_with fail
      go_quiet (fail)
      go_wp2_with fail
      go_ret
      refine ⟨?_, below_drewN hBt _⟩
      show Ending.returned (.int .i64 ((s.size : Int) - (at_ : Int))) = .returned (.int .i64 (q : Int))
      rw [← hq.out, if_pos (by trivial), Int.ofNat_sub hat]
    · have e1 : ((er : Int) != 0) = true := by simp; omega
      go_wp2_with fail
      go_ret
      exact ⟨by rw [← hq.out, if_neg he]; rfl, hBt⟩
  · go_simp
    have hC1 : Cells (w0.alloc (.cells #[.slice none 0 0, .int .i64 0, .int .i64 0] 102)) gb (rfL lim s k) := hC.of_block (Below.heap_alloc _ _ _ hgb)
    have hgb1 : gb < (w0.alloc (.cells #[.slice none 0 0, .int .i64 0, .int .i64 0] 102)).heap.size := hC1.lt
    have hD1 : Cells (w0.alloc (.cells #[.slice none 0 0, .int .i64 0, .int .i64 0] 102)) w0.heap.size (cutL (.slice none 0 0) 0 0) := cells3_new w0 _ _ _ _
    have B1 : Below w0.heap.size w0 (w0.alloc (.cells #[.slice none 0 0, .int .i64 0, .int .i64 0] 102)) := (Below.refl _ _).alloc (Nat.le_refl _) _
    have N1 : w0.heap.size < (w0.alloc (.cells #[.slice none 0 0, .int .i64 0, .int .i64 0] 102)).heap.size := hD1.lt
    obtain ⟨a0, a1, a2, _, _, _⟩ := cells3 hC1
    refine hK.out _ _ ⟨a0, a1⟩ (fun _ => ?_)
    clear hK K a0 a1 a2
    generalize (w0.alloc (.cells #[.slice none 0 0, .int .i64 0, .int .i64 0] 102)) = w1 at *
    refine wpAnyH_ready (rs := [8]) (by kernel_rfl) (by simp) ?_
    refine AllReadyH.cons (by simp only [List.getElem?_toArray, List.getElem?_cons_zero, List.getElem?_cons_succ]; exact rfl) (fun K hK => ?_) AllReadyH.nil
    go_simp
    refine (H1 _).out.mono ?_
    rintro r w2 ⟨⟨v, rfl, hown⟩, hb2⟩
    obtain ⟨ad, ln, cp, rfl⟩ := ownS_slice hown
    have hC2 := hC1.of_block (hb2.block gb hgb1)
    have hD2 := hD1.of_block (hb2.block _ hD1.lt)
    obtain ⟨b0, b1, b2, _, _, _⟩ := cells3 hC2
    refine hK.out _ _ ⟨b0, b1⟩ (fun _ => ?_)
    clear hK K
    refine wpAnyH_ready (rs := [10]) (by kernel_rfl) (by simp) ?_
    refine AllReadyH.cons (by simp only [List.getElem?_toArray, List.getElem?_cons_zero, List.getElem?_cons_succ]; exact rfl) (fun K hK => ?_) AllReadyH.nil
    obtain ⟨d0, d1, d2, x0, x1, x2⟩ := cells3 hD2
    go_simp
    have hx : ∀ x, x ≠ w0.heap.size → (((w2.setCell ⟨w0.heap.size, 0, none⟩ (.slice ad ln cp)).setCell ⟨w0.heap.size, 1, none⟩ (.int .i64 (at_ : Int))).setCell ⟨w0.heap.size, 2, none⟩ (.int .i64 (er : Int))).heap[x]? = w2.heap[x]? := fun x hx => by rw [Below.heap_setCell _ _ _ _ hx, Below.heap_setCell _ _ _ _ hx, Below.heap_setCell _ _ _ _ hx]
    have hCt : Cells (((w2.setCell ⟨w0.heap.size, 0, none⟩ (.slice ad ln cp)).setCell ⟨w0.heap.size, 1, none⟩ (.int .i64 (at_ : Int))).setCell ⟨w0.heap.size, 2, none⟩ (.int .i64 (er : Int))) gb (rfL lim s k) := hC2.of_block (hx gb (by omega))
    have hDt : Cells (((w2.setCell ⟨w0.heap.size, 0, none⟩ (.slice ad ln cp)).setCell ⟨w0.heap.size, 1, none⟩ (.int .i64 (at_ : Int))).setCell ⟨w0.heap.size, 2, none⟩ (.int .i64 (er : Int))) w0.heap.size (cutL (.slice ad ln cp) at_ er) := ((hD2.set 0 (by simp) (.slice ad ln cp)).set 1 (by simp) (.int .i64 (at_ : Int))).set 2 (by simp) (.int .i64 (er : Int))
    have hOt : OwnS (((w2.setCell ⟨w0.heap.size, 0, none⟩ (.slice ad ln cp)).setCell ⟨w0.heap.size, 1, none⟩ (.int .i64 (at_ : Int))).setCell ⟨w0.heap.size, 2, none⟩ (.int .i64 (er : Int))) w0.heap.size (.slice ad ln cp) ms := ownS_base (ownS_block hown (fun g hg _ => hx g (by omega))) (by omega)
    have hBt : Below w0.heap.size w0 (((w2.setCell ⟨w0.heap.size, 0, none⟩ (.slice ad ln cp)).setCell ⟨w0.heap.size, 1, none⟩ (.int .i64 (at_ : Int))).setCell ⟨w0.heap.size, 2, none⟩ (.int .i64 (er : Int))) := by
      have hy : Below w0.heap.size w0 w2 := B1.trans (hb2.mono (by omega))
      refine Below.setCell (Below.setCell (Below.setCell hy ?_ _) ?_ _) ?_ _ <;> exact Nat.le_refl _
    have hAt : ∀ x, (Value.slice ad ln cp).ownBlock = some x → x ≠ w0.heap.size := fun x hx => by have := (hown.lt _ hx).1; omega
    have hDl : w0.heap.size ≤ w0.heap.size := Nat.le_refl _
    clear b0 b1 b2 d0 d1 d2 x0 x1 x2
    obtain ⟨b0, b1, b2, _, _, _⟩ := cells3 hCt
    refine hK.out _ _ ⟨b0, b1⟩ (fun _ => ?_)
    clear hK K
    refine wpAnyH_done (by kernel_rfl) ?_ _
    refine NoPanic.normal ?_
    clear hx hC2 hD2 hC1 hD1 hown hb2 hgb1 B1 N1
    generalize (((w2.setCell ⟨w0.heap.size, 0, none⟩ (.slice ad ln cp)).setCell ⟨w0.heap.size, 1, none⟩ (.int .i64 (at_ : Int))).setCell ⟨w0.heap.size, 2, none⟩ (.int .i64 (er : Int))) = W at *
    obtain ⟨D, hDD⟩ : ∃ D, w0.heap.size = D := ⟨_, rfl⟩
    rw [hDD] at hDt hAt ⊢
    replace hDl : w0.heap.size ≤ D := by omega
    clear hDD
    replace hBt : Below w.heap.size w W := hB0.trans (hBt.mono (by have := hN0.out; omega))
    obtain ⟨t0, t1, t2, f0, f1, f2⟩ := cells3 hCt
    obtain ⟨d0, d1, d2, _, _, _⟩ := cells3 hDt
    by_cases he : er = 0
    · subst he
      go_wp2_with fail
      go_quiet (fail)
      go_wp2_with fail
      go_ret
      refine ⟨?_, below_drewN hBt _⟩
      show Ending.returned (.int .i64 ((s.size : Int) - (at_ : Int))) = .returned (.int .i64 (q : Int))
      rw [← hq.out, if_pos (by trivial), Int.ofNat_sub hat]
    · have e1 : ((er : Int) != 0) = true := by simp; omega
      go_wp2_with fail
      go_ret
      exact ⟨by rw [← hq.out, if_neg he]; rfl, hBt⟩

set_option maxRecDepth 100000 in
set_option maxHeartbeats 400000 in
theorem refNeedOf_any (gb : Nat) (lim : Int) (s : ByteArray) (k : Nat) (w : World) (hC : Cells w gb (rfL lim s k)) (hm : s.size ≤ 4194304) :
    Calls Try.prog 31 #[.pointer (some ⟨gb, 0, none⟩)] w fun e w' => e = .returned (.int .i64 ((if (Cut lim s.data.toList).er = 0 then needN lim (s.data.toList.drop (Cut lim s.data.toList).at_) else 0 : Nat) : Int)) ∧ Below w.heap.size w w' := by
  have H1 : ∀ W, Hid (Calls Try.prog 48 #[.int .i64 lim, .string s] W fun r w' => cutQ (Cut lim s.data.toList) W.heap.size r w' ∧ Below W.heap.size W w') := fun W => refSplit_any lim s W (by omega)
  have hgb : gb < w.heap.size := hC.lt
  obtain ⟨c0, c1, c2, _, _, _⟩ := cells3 hC
  have hSW : w.cell? ⟨gb, 0, none⟩ = some (.int .i64 lim) ∧ w.cell? ⟨gb, 1, none⟩ = some (.string s) := ⟨c0, c1⟩
  have hat : (Cut lim s.data.toList).at_ ≤ s.size := by have := (FrMath.cut_len lim (s.data.toList.length + 1) s.data.toList).2; rw [size_l] at this; unfold FrMath.Cut; rw [size_l]; exact this
  have HN : ∀ W, Hid (Calls Try.prog 49 #[.int .i64 lim, .string (s.extract (Cut lim s.data.toList).at_ s.size)] W fun r w' => r = .returned (.int .i64 (needN lim (s.data.toList.drop (Cut lim s.data.toList).at_) : Int)) ∧ w' = W) := fun W => by
    have := refNeed_any lim (s.extract (Cut lim s.data.toList).at_ s.size) W (by rw [ByteArray.size_extract]; omega)
    rw [drop_l] at this
    exact this.mono (fun r w' h => ⟨h.1, h.2.symm⟩)
  generalize hX : s.data.toList.drop (Cut lim s.data.toList).at_ = X at *
  generalize Cut lim s.data.toList = o at *
  obtain ⟨ms, at_, er⟩ := o
  simp only at *
  clear hX
  have i0 : (0 : Int) ≤ (at_ : Int) := Int.natCast_nonneg _
  have i1 : (at_ : Int) ≤ (s.size : Int) := Int.ofNat_le.2 hat
  generalize needN lim X = z at *
  obtain ⟨q, hq⟩ : ∃ q, Hid ((if er = 0 then z else 0) = q) := ⟨_, rfl⟩
  rw [hq.out]
  go_enter Try.func31, Try.ntmps31
  go_wp2_with fail
  refine wp_region_noPanic ?_
  refine wp_region_held_drew (S := fun W => W.cell? ⟨gb, 0, none⟩ = some (.int .i64 lim) ∧ W.cell? ⟨gb, 1, none⟩ = some (.string s)) (by kernel_rfl) hSW (fun _ => ?_)
  have hC0 : Cells w.drew gb (rfL lim s k) := hC
  have hgb0 : gb < w.drew.heap.size := hgb
  have hN0 : Hid (w.drew.heap.size = w.heap.size) := rfl
  have hB0 : Below w.heap.size w w.drew := (Below.refl _ _).drew
  replace hSW : w.drew.cell? ⟨gb, 0, none⟩ = some (.int .i64 lim) ∧ w.drew.cell? ⟨gb, 1, none⟩ = some (.string s) := hSW
  clear hC hgb c0 c1 c2
  have hC := hC0
  have hgb := hgb0
  clear hC0 hgb0
  generalize w.drew = w0 at *
  refine wpAnyH_take (i := 0) (v := ?va9) (by simp only [List.getElem?_toArray, List.getElem?_cons_zero]; exact rfl) (by kernel_rfl) (by kernel_rfl) (by kernel_rfl) (fun _ _ _ h => h) (Or.inl ⟨by rfl, ?ya9⟩) hSW ?ra9
  case ya9 =>
    intro w' hS
    obtain ⟨s0, s1⟩ := hS
    go_simp
    try with_reducible rfl
  case ra9 =>
  simp only [Act.put, List.setIfInBounds_toArray, List.set_cons_zero, List.set_cons_succ]
  refine wpAnyH_take (i := 1) (v := ?va10) (by simp only [List.getElem?_toArray, List.getElem?_cons_zero, List.getElem?_cons_succ]; exact rfl) (by kernel_rfl) (by kernel_rfl) (by kernel_rfl) (fun _ _ _ h => h) (Or.inl ⟨by rfl, ?ya10⟩) hSW ?ra10
  case ya10 =>
    intro w' hS
    obtain ⟨s0, s1⟩ := hS
    go_simp
    try with_reducible rfl
  case ra10 =>
  simp only [Act.put, List.setIfInBounds_toArray, List.set_cons_zero, List.set_cons_succ]
  refine wpAnyH_take (i := 2) (v := ?va11) (by simp only [List.getElem?_toArray, List.getElem?_cons_zero, List.getElem?_cons_succ]; exact rfl) (by kernel_rfl) (by kernel_rfl) (by kernel_rfl) (fun _ _ _ h => h) (Or.inl ⟨by rfl, ?ya11⟩) hSW ?ra11
  case ya11 =>
    intro w' hS
    obtain ⟨s0, s1⟩ := hS
    go_simp
    try with_reducible rfl
  case ra11 =>
  simp only [Act.put, List.setIfInBounds_toArray, List.set_cons_zero, List.set_cons_succ]
  refine wpAnyH_take (i := 3) (v := ?va12) (by simp only [List.getElem?_toArray, List.getElem?_cons_zero, List.getElem?_cons_succ]; exact rfl) (by kernel_rfl) (by kernel_rfl) (by kernel_rfl) (fun _ _ _ h => h) (Or.inl ⟨by rfl, ?ya12⟩) hSW ?ra12
  case ya12 =>
    intro w' hS
    obtain ⟨s0, s1⟩ := hS
    go_simp
    try with_reducible rfl
  case ra12 =>
  simp only [Act.put, List.setIfInBounds_toArray, List.set_cons_zero, List.set_cons_succ]
  refine wpAnyH_take (i := 4) (v := ?va13) (by simp only [List.getElem?_toArray, List.getElem?_cons_zero, List.getElem?_cons_succ]; exact rfl) (by kernel_rfl) (by kernel_rfl) (by kernel_rfl) (fun _ _ _ h => h) (Or.inl ⟨by rfl, ?ya13⟩) hSW ?ra13
  case ya13 =>
    intro w' hS
    obtain ⟨s0, s1⟩ := hS
    go_simp
    try with_reducible rfl
  case ra13 =>
  simp only [Act.put, List.setIfInBounds_toArray, List.set_cons_zero, List.set_cons_succ]
  refine wpAnyH_take (i := 5) (v := ?va14) (by simp only [List.getElem?_toArray, List.getElem?_cons_zero, List.getElem?_cons_succ]; exact rfl) (by kernel_rfl) (by kernel_rfl) (by kernel_rfl) (fun _ _ _ h => h) (Or.inl ⟨by rfl, ?ya14⟩) hSW ?ra14
  case ya14 =>
    intro w' hS
    obtain ⟨s0, s1⟩ := hS
    go_simp
    try with_reducible rfl
  case ra14 =>
  simp only [Act.put, List.setIfInBounds_toArray, List.set_cons_zero, List.set_cons_succ]
  refine wpAnyH_take (i := 6) (v := ?va15) (by simp only [List.getElem?_toArray, List.getElem?_cons_zero, List.getElem?_cons_succ]; exact rfl) (by kernel_rfl) (by kernel_rfl) (by kernel_rfl) (fun _ _ _ h => h) (Or.inl ⟨by rfl, ?ya15⟩) hSW ?ra15
  case ya15 =>
    intro w' hS
    obtain ⟨s0, s1⟩ := hS
    go_simp
    try with_reducible rfl
  case ra15 =>
  simp only [Act.put, List.setIfInBounds_toArray, List.set_cons_zero, List.set_cons_succ]
  refine wpAnyH_take (i := 7) (v := ?va16) (by simp only [List.getElem?_toArray, List.getElem?_cons_zero, List.getElem?_cons_succ]; exact rfl) (by kernel_rfl) (by kernel_rfl) (by kernel_rfl) (fun _ _ _ h => h) (Or.inl ⟨by rfl, ?ya16⟩) hSW ?ra16
  case ya16 =>
    intro w' hS
    obtain ⟨s0, s1⟩ := hS
    go_simp
    try with_reducible rfl
  case ra16 =>
  simp only [Act.put, List.setIfInBounds_toArray, List.set_cons_zero, List.set_cons_succ]
  refine wpAnyH_ready (rs := [8, 9]) (by kernel_rfl) (by simp) ?_
  refine AllReadyH.cons (by simp only [List.getElem?_toArray, List.getElem?_cons_zero, List.getElem?_cons_succ]; exact rfl) (fun K hK => ?_) (AllReadyH.cons (by simp only [List.getElem?_toArray, List.getElem?_cons_zero, List.getElem?_cons_succ]; exact rfl) (fun K hK => ?_) AllReadyH.nil)
  · go_simp
    refine (H1 _).out.mono ?_
    rintro r w1 ⟨⟨v, rfl, hown⟩, hb1⟩
    obtain ⟨ad, ln, cp, rfl⟩ := ownS_slice hown
    have hC1 := hC.of_block (hb1.block gb hgb)
    obtain ⟨a0, a1, a2, _, _, _⟩ := cells3 hC1
    refine hK.out _ _ ⟨a0, a1⟩ (fun _ => ?_)
    clear hK K
    refine wpAnyH_ready (rs := [9]) (by kernel_rfl) (by simp) ?_
    refine AllReadyH.cons (by simp only [List.getElem?_toArray, List.getElem?_cons_zero, List.getElem?_cons_succ]; exact rfl) (fun K hK => ?_) AllReadyH.nil
    go_simp
    have hgb1 : gb < w1.heap.size := hC1.lt
    have hC2 : Cells (w1.alloc (.cells #[.slice none 0 0, .int .i64 0, .int .i64 0] 102)) gb (rfL lim s k) := hC1.of_block (Below.heap_alloc _ _ _ hgb1)
    obtain ⟨b0, b1, b2, _, _, _⟩ := cells3 hC2
    refine hK.out _ _ ⟨b0, b1⟩ (fun _ => ?_)
    clear hK K
    refine wpAnyH_ready (rs := [10]) (by kernel_rfl) (by simp) ?_
    refine AllReadyH.cons (by simp only [List.getElem?_toArray, List.getElem?_cons_zero, List.getElem?_cons_succ]; exact rfl) (fun K hK => ?_) AllReadyH.nil
    go_simp
    have hCt : Cells (w1.alloc (.cells #[.slice ad ln cp, .int .i64 (at_ : Int), .int .i64 (er : Int)] 102)) gb (rfL lim s k) := hC1.of_block (Below.heap_alloc _ _ _ hgb1)
    have hDt : Cells (w1.alloc (.cells #[.slice ad ln cp, .int .i64 (at_ : Int), .int .i64 (er : Int)] 102)) w1.heap.size (cutL (.slice ad ln cp) at_ er) := cells3_new w1 _ _ _ _
    have hOt : OwnS (w1.alloc (.cells #[.slice ad ln cp, .int .i64 (at_ : Int), .int .i64 (er : Int)] 102)) w0.heap.size (.slice ad ln cp) ms := World.ownsRow.alloc hown _
    have hBt : Below w0.heap.size w0 (w1.alloc (.cells #[.slice ad ln cp, .int .i64 (at_ : Int), .int .i64 (er : Int)] 102)) := hb1.alloc hb1.size _
    have hAt : ∀ x, (Value.slice ad ln cp).ownBlock = some x → x ≠ w1.heap.size := fun x hx => by have := (hown.lt _ hx).2; omega
    have hDl : w0.heap.size ≤ w1.heap.size := hb1.size
    obtain ⟨b0, b1, b2, _, _, _⟩ := cells3 hCt
    refine hK.out _ _ ⟨b0, b1⟩ (fun _ => ?_)
    clear hK K
    refine wpAnyH_done (by kernel_rfl) ?_ _
    refine NoPanic.normal ?_
    clear hC2 hC1 hown hb1 hgb1
    generalize (w1.alloc (.cells #[.slice ad ln cp, .int .i64 (at_ : Int), .int .i64 (er : Int)] 102)) = W at *
    generalize w1.heap.size = D at *
    replace hBt : Below w.heap.size w W := hB0.trans (hBt.mono (by have := hN0.out; omega))
    obtain ⟨t0, t1, t2, f0, f1, f2⟩ := cells3 hCt
    obtain ⟨d0, d1, d2, _, _, _⟩ := cells3 hDt
    by_cases he : er = 0
    · subst he
      go_wp2_with fail
      go_quiet ((go_at_call 49; exact Calls.quiet_of_same (HN _).out))
      go_wp2_with fail
      go_ret
      refine ⟨?_, below_drewN hBt _⟩
      rw [← hq.out, if_pos (by trivial)]
      rfl
    · have e1 : ((er : Int) != 0) = true := by simp; omega
      go_wp2_with fail
      go_ret
      exact ⟨by rw [← hq.out, if_neg he]; rfl, hBt⟩
  · go_simp
    have hC1 : Cells (w0.alloc (.cells #[.slice none 0 0, .int .i64 0, .int .i64 0] 102)) gb (rfL lim s k) := hC.of_block (Below.heap_alloc _ _ _ hgb)
    have hgb1 : gb < (w0.alloc (.cells #[.slice none 0 0, .int .i64 0, .int .i64 0] 102)).heap.size := hC1.lt
    have hD1 : Cells (w0.alloc (.cells #[.slice none 0 0, .int .i64 0, .int .i64 0] 102)) w0.heap.size (cutL (.slice none 0 0) 0 0) := cells3_new w0 _ _ _ _
    have B1 : Below w0.heap.size w0 (w0.alloc (.cells #[.slice none 0 0, .int .i64 0, .int .i64 0] 102)) := (Below.refl _ _).alloc (Nat.le_refl _) _
    have N1 : w0.heap.size < (w0.alloc (.cells #[.slice none 0 0, .int .i64 0, .int .i64 0] 102)).heap.size := hD1.lt
    obtain ⟨a0, a1, a2, _, _, _⟩ := cells3 hC1
    refine hK.out _ _ ⟨a0, a1⟩ (fun _ => ?_)
    clear hK K a0 a1 a2
    generalize (w0.alloc (.cells #[.slice none 0 0, .int .i64 0, .int .i64 0] 102)) = w1 at *
    refine wpAnyH_ready (rs := [8]) (by kernel_rfl) (by simp) ?_
    refine AllReadyH.cons (by simp only [List.getElem?_toArray, List.getElem?_cons_zero, List.getElem?_cons_succ]; exact rfl) (fun K hK => ?_) AllReadyH.nil
    go_simp
    refine (H1 _).out.mono ?_
    rintro r w2 ⟨⟨v, rfl, hown⟩, hb2⟩
    obtain ⟨ad, ln, cp, rfl⟩ := ownS_slice hown
    have hC2 := hC1.of_block (hb2.block gb hgb1)
    have hD2 := hD1.of_block (hb2.block _ hD1.lt)
    obtain ⟨b0, b1, b2, _, _, _⟩ := cells3 hC2
    refine hK.out _ _ ⟨b0, b1⟩ (fun _ => ?_)
    clear hK K
    refine wpAnyH_ready (rs := [10]) (by kernel_rfl) (by simp) ?_
    refine AllReadyH.cons (by simp only [List.getElem?_toArray, List.getElem?_cons_zero, List.getElem?_cons_succ]; exact rfl) (fun K hK => ?_) AllReadyH.nil
    obtain ⟨d0, d1, d2, x0, x1, x2⟩ := cells3 hD2
    go_simp
    have hx : ∀ x, x ≠ w0.heap.size → (((w2.setCell ⟨w0.heap.size, 0, none⟩ (.slice ad ln cp)).setCell ⟨w0.heap.size, 1, none⟩ (.int .i64 (at_ : Int))).setCell ⟨w0.heap.size, 2, none⟩ (.int .i64 (er : Int))).heap[x]? = w2.heap[x]? := fun x hx => by rw [Below.heap_setCell _ _ _ _ hx, Below.heap_setCell _ _ _ _ hx, Below.heap_setCell _ _ _ _ hx]
    have hCt : Cells (((w2.setCell ⟨w0.heap.size, 0, none⟩ (.slice ad ln cp)).setCell ⟨w0.heap.size, 1, none⟩ (.int .i64 (at_ : Int))).setCell ⟨w0.heap.size, 2, none⟩ (.int .i64 (er : Int))) gb (rfL lim s k) := hC2.of_block (hx gb (by omega))
    have hDt : Cells (((w2.setCell ⟨w0.heap.size, 0, none⟩ (.slice ad ln cp)).setCell ⟨w0.heap.size, 1, none⟩ (.int .i64 (at_ : Int))).setCell ⟨w0.heap.size, 2, none⟩ (.int .i64 (er : Int))) w0.heap.size (cutL (.slice ad ln cp) at_ er) := ((hD2.set 0 (by simp) (.slice ad ln cp)).set 1 (by simp) (.int .i64 (at_ : Int))).set 2 (by simp) (.int .i64 (er : Int))
    have hOt : OwnS (((w2.setCell ⟨w0.heap.size, 0, none⟩ (.slice ad ln cp)).setCell ⟨w0.heap.size, 1, none⟩ (.int .i64 (at_ : Int))).setCell ⟨w0.heap.size, 2, none⟩ (.int .i64 (er : Int))) w0.heap.size (.slice ad ln cp) ms := ownS_base (ownS_block hown (fun g hg _ => hx g (by omega))) (by omega)
    have hBt : Below w0.heap.size w0 (((w2.setCell ⟨w0.heap.size, 0, none⟩ (.slice ad ln cp)).setCell ⟨w0.heap.size, 1, none⟩ (.int .i64 (at_ : Int))).setCell ⟨w0.heap.size, 2, none⟩ (.int .i64 (er : Int))) := by
      have hy : Below w0.heap.size w0 w2 := B1.trans (hb2.mono (by omega))
      refine Below.setCell (Below.setCell (Below.setCell hy ?_ _) ?_ _) ?_ _ <;> exact Nat.le_refl _
    have hAt : ∀ x, (Value.slice ad ln cp).ownBlock = some x → x ≠ w0.heap.size := fun x hx => by have := (hown.lt _ hx).1; omega
    have hDl : w0.heap.size ≤ w0.heap.size := Nat.le_refl _
    clear b0 b1 b2 d0 d1 d2 x0 x1 x2
    obtain ⟨b0, b1, b2, _, _, _⟩ := cells3 hCt
    refine hK.out _ _ ⟨b0, b1⟩ (fun _ => ?_)
    clear hK K
    refine wpAnyH_done (by kernel_rfl) ?_ _
    refine NoPanic.normal ?_
    clear hx hC2 hD2 hC1 hD1 hown hb2 hgb1 B1 N1
    generalize (((w2.setCell ⟨w0.heap.size, 0, none⟩ (.slice ad ln cp)).setCell ⟨w0.heap.size, 1, none⟩ (.int .i64 (at_ : Int))).setCell ⟨w0.heap.size, 2, none⟩ (.int .i64 (er : Int))) = W at *
    obtain ⟨D, hDD⟩ : ∃ D, w0.heap.size = D := ⟨_, rfl⟩
    rw [hDD] at hDt hAt ⊢
    replace hDl : w0.heap.size ≤ D := by omega
    clear hDD
    replace hBt : Below w.heap.size w W := hB0.trans (hBt.mono (by have := hN0.out; omega))
    obtain ⟨t0, t1, t2, f0, f1, f2⟩ := cells3 hCt
    obtain ⟨d0, d1, d2, _, _, _⟩ := cells3 hDt
    by_cases he : er = 0
    · subst he
      go_wp2_with fail
      go_quiet ((go_at_call 49; exact Calls.quiet_of_same (HN _).out))
      go_wp2_with fail
      go_ret
      refine ⟨?_, below_drewN hBt _⟩
      rw [← hq.out, if_pos (by trivial)]
      rfl
    · have e1 : ((er : Int) != 0) = true := by simp; omega
      go_wp2_with fail
      go_ret
      exact ⟨by rw [← hq.out, if_neg he]; rfl, hBt⟩

set_option maxRecDepth 100000 in
set_option maxHeartbeats 400000 in
theorem refFault_any (gb : Nat) (lim : Int) (s : ByteArray) (k : Nat) (w : World) (hC : Cells w gb (rfL lim s k)) (hm : s.size ≤ 4194304) :
    Calls Try.prog 32 #[.pointer (some ⟨gb, 0, none⟩)] w fun e w' => e = .returned (.tuple #[.int .i64 ((Cut lim s.data.toList).er : Int), .int .i64 ((if (Cut lim s.data.toList).er = 0 then 0 else (Cut lim s.data.toList).at_ : Nat) : Int)]) ∧ Below w.heap.size w w' := by
  have H1 : ∀ W, Hid (Calls Try.prog 48 #[.int .i64 lim, .string s] W fun r w' => cutQ (Cut lim s.data.toList) W.heap.size r w' ∧ Below W.heap.size W w') := fun W => refSplit_any lim s W (by omega)
  have hgb : gb < w.heap.size := hC.lt
  obtain ⟨c0, c1, c2, _, _, _⟩ := cells3 hC
  have hSW : w.cell? ⟨gb, 0, none⟩ = some (.int .i64 lim) ∧ w.cell? ⟨gb, 1, none⟩ = some (.string s) := ⟨c0, c1⟩
  have hat : (Cut lim s.data.toList).at_ ≤ s.size := by have := (FrMath.cut_len lim (s.data.toList.length + 1) s.data.toList).2; rw [size_l] at this; unfold FrMath.Cut; rw [size_l]; exact this
  generalize Cut lim s.data.toList = o at *
  obtain ⟨ms, at_, er⟩ := o
  simp only at *
  obtain ⟨q, hq⟩ : ∃ q, Hid ((if er = 0 then 0 else at_) = q) := ⟨_, rfl⟩
  rw [hq.out]
  go_enter Try.func32, Try.ntmps32
  go_wp2_with fail
  refine wp_region_noPanic ?_
  refine wp_region_held_drew (S := fun W => W.cell? ⟨gb, 0, none⟩ = some (.int .i64 lim) ∧ W.cell? ⟨gb, 1, none⟩ = some (.string s)) (by kernel_rfl) hSW (fun _ => ?_)
  have hC0 : Cells w.drew gb (rfL lim s k) := hC
  have hgb0 : gb < w.drew.heap.size := hgb
  have hN0 : Hid (w.drew.heap.size = w.heap.size) := rfl
  have hB0 : Below w.heap.size w w.drew := (Below.refl _ _).drew
  replace hSW : w.drew.cell? ⟨gb, 0, none⟩ = some (.int .i64 lim) ∧ w.drew.cell? ⟨gb, 1, none⟩ = some (.string s) := hSW
  clear hC hgb c0 c1 c2
  have hC := hC0
  have hgb := hgb0
  clear hC0 hgb0
  generalize w.drew = w0 at *
  refine wpAnyH_take (i := 0) (v := ?va17) (by simp only [List.getElem?_toArray, List.getElem?_cons_zero]; exact rfl) (by kernel_rfl) (by kernel_rfl) (by kernel_rfl) (fun _ _ _ h => h) (Or.inl ⟨by rfl, ?ya17⟩) hSW ?ra17
  case ya17 =>
    intro w' hS
    obtain ⟨s0, s1⟩ := hS
    go_simp
    try with_reducible rfl
  case ra17 =>
  simp only [Act.put, List.setIfInBounds_toArray, List.set_cons_zero, List.set_cons_succ]
  refine wpAnyH_take (i := 1) (v := ?va18) (by simp only [List.getElem?_toArray, List.getElem?_cons_zero, List.getElem?_cons_succ]; exact rfl) (by kernel_rfl) (by kernel_rfl) (by kernel_rfl) (fun _ _ _ h => h) (Or.inl ⟨by rfl, ?ya18⟩) hSW ?ra18
  case ya18 =>
    intro w' hS
    obtain ⟨s0, s1⟩ := hS
    go_simp
    try with_reducible rfl
  case ra18 =>
  simp only [Act.put, List.setIfInBounds_toArray, List.set_cons_zero, List.set_cons_succ]
  refine wpAnyH_take (i := 2) (v := ?va19) (by simp only [List.getElem?_toArray, List.getElem?_cons_zero, List.getElem?_cons_succ]; exact rfl) (by kernel_rfl) (by kernel_rfl) (by kernel_rfl) (fun _ _ _ h => h) (Or.inl ⟨by rfl, ?ya19⟩) hSW ?ra19
  case ya19 =>
    intro w' hS
    obtain ⟨s0, s1⟩ := hS
    go_simp
    try with_reducible rfl
  case ra19 =>
  simp only [Act.put, List.setIfInBounds_toArray, List.set_cons_zero, List.set_cons_succ]
  refine wpAnyH_take (i := 3) (v := ?va20) (by simp only [List.getElem?_toArray, List.getElem?_cons_zero, List.getElem?_cons_succ]; exact rfl) (by kernel_rfl) (by kernel_rfl) (by kernel_rfl) (fun _ _ _ h => h) (Or.inl ⟨by rfl, ?ya20⟩) hSW ?ra20
  case ya20 =>
    intro w' hS
    obtain ⟨s0, s1⟩ := hS
    go_simp
    try with_reducible rfl
  case ra20 =>
  simp only [Act.put, List.setIfInBounds_toArray, List.set_cons_zero, List.set_cons_succ]
  refine wpAnyH_take (i := 4) (v := ?va21) (by simp only [List.getElem?_toArray, List.getElem?_cons_zero, List.getElem?_cons_succ]; exact rfl) (by kernel_rfl) (by kernel_rfl) (by kernel_rfl) (fun _ _ _ h => h) (Or.inl ⟨by rfl, ?ya21⟩) hSW ?ra21
  case ya21 =>
    intro w' hS
    obtain ⟨s0, s1⟩ := hS
    go_simp
    try with_reducible rfl
  case ra21 =>
  simp only [Act.put, List.setIfInBounds_toArray, List.set_cons_zero, List.set_cons_succ]
  refine wpAnyH_take (i := 5) (v := ?va22) (by simp only [List.getElem?_toArray, List.getElem?_cons_zero, List.getElem?_cons_succ]; exact rfl) (by kernel_rfl) (by kernel_rfl) (by kernel_rfl) (fun _ _ _ h => h) (Or.inl ⟨by rfl, ?ya22⟩) hSW ?ra22
  case ya22 =>
    intro w' hS
    obtain ⟨s0, s1⟩ := hS
    go_simp
    try with_reducible rfl
  case ra22 =>
  simp only [Act.put, List.setIfInBounds_toArray, List.set_cons_zero, List.set_cons_succ]
  refine wpAnyH_take (i := 6) (v := ?va23) (by simp only [List.getElem?_toArray, List.getElem?_cons_zero, List.getElem?_cons_succ]; exact rfl) (by kernel_rfl) (by kernel_rfl) (by kernel_rfl) (fun _ _ _ h => h) (Or.inl ⟨by rfl, ?ya23⟩) hSW ?ra23
  case ya23 =>
    intro w' hS
    obtain ⟨s0, s1⟩ := hS
    go_simp
    try with_reducible rfl
  case ra23 =>
  simp only [Act.put, List.setIfInBounds_toArray, List.set_cons_zero, List.set_cons_succ]
  refine wpAnyH_take (i := 7) (v := ?va24) (by simp only [List.getElem?_toArray, List.getElem?_cons_zero, List.getElem?_cons_succ]; exact rfl) (by kernel_rfl) (by kernel_rfl) (by kernel_rfl) (fun _ _ _ h => h) (Or.inl ⟨by rfl, ?ya24⟩) hSW ?ra24
  case ya24 =>
    intro w' hS
    obtain ⟨s0, s1⟩ := hS
    go_simp
    try with_reducible rfl
  case ra24 =>
  simp only [Act.put, List.setIfInBounds_toArray, List.set_cons_zero, List.set_cons_succ]
  refine wpAnyH_ready (rs := [8, 9]) (by kernel_rfl) (by simp) ?_
  refine AllReadyH.cons (by simp only [List.getElem?_toArray, List.getElem?_cons_zero, List.getElem?_cons_succ]; exact rfl) (fun K hK => ?_) (AllReadyH.cons (by simp only [List.getElem?_toArray, List.getElem?_cons_zero, List.getElem?_cons_succ]; exact rfl) (fun K hK => ?_) AllReadyH.nil)
  · go_simp
    refine (H1 _).out.mono ?_
    rintro r w1 ⟨⟨v, rfl, hown⟩, hb1⟩
    obtain ⟨ad, ln, cp, rfl⟩ := ownS_slice hown
    have hC1 := hC.of_block (hb1.block gb hgb)
    obtain ⟨a0, a1, a2, _, _, _⟩ := cells3 hC1
    refine hK.out _ _ ⟨a0, a1⟩ (fun _ => ?_)
    clear hK K
    refine wpAnyH_ready (rs := [9]) (by kernel_rfl) (by simp) ?_
    refine AllReadyH.cons (by simp only [List.getElem?_toArray, List.getElem?_cons_zero, List.getElem?_cons_succ]; exact rfl) (fun K hK => ?_) AllReadyH.nil
    go_simp
    have hgb1 : gb < w1.heap.size := hC1.lt
    have hC2 : Cells (w1.alloc (.cells #[.slice none 0 0, .int .i64 0, .int .i64 0] 102)) gb (rfL lim s k) := hC1.of_block (Below.heap_alloc _ _ _ hgb1)
    obtain ⟨b0, b1, b2, _, _, _⟩ := cells3 hC2
    refine hK.out _ _ ⟨b0, b1⟩ (fun _ => ?_)
    clear hK K
    refine wpAnyH_ready (rs := [10]) (by kernel_rfl) (by simp) ?_
    refine AllReadyH.cons (by simp only [List.getElem?_toArray, List.getElem?_cons_zero, List.getElem?_cons_succ]; exact rfl) (fun K hK => ?_) AllReadyH.nil
    go_simp
    have hCt : Cells (w1.alloc (.cells #[.slice ad ln cp, .int .i64 (at_ : Int), .int .i64 (er : Int)] 102)) gb (rfL lim s k) := hC1.of_block (Below.heap_alloc _ _ _ hgb1)
    have hDt : Cells (w1.alloc (.cells #[.slice ad ln cp, .int .i64 (at_ : Int), .int .i64 (er : Int)] 102)) w1.heap.size (cutL (.slice ad ln cp) at_ er) := cells3_new w1 _ _ _ _
    have hOt : OwnS (w1.alloc (.cells #[.slice ad ln cp, .int .i64 (at_ : Int), .int .i64 (er : Int)] 102)) w0.heap.size (.slice ad ln cp) ms := World.ownsRow.alloc hown _
    have hBt : Below w0.heap.size w0 (w1.alloc (.cells #[.slice ad ln cp, .int .i64 (at_ : Int), .int .i64 (er : Int)] 102)) := hb1.alloc hb1.size _
    have hAt : ∀ x, (Value.slice ad ln cp).ownBlock = some x → x ≠ w1.heap.size := fun x hx => by have := (hown.lt _ hx).2; omega
    have hDl : w0.heap.size ≤ w1.heap.size := hb1.size
    obtain ⟨b0, b1, b2, _, _, _⟩ := cells3 hCt
    refine hK.out _ _ ⟨b0, b1⟩ (fun _ => ?_)
    clear hK K
    refine wpAnyH_done (by kernel_rfl) ?_ _
    refine NoPanic.normal ?_
    clear hC2 hC1 hown hb1 hgb1
    generalize (w1.alloc (.cells #[.slice ad ln cp, .int .i64 (at_ : Int), .int .i64 (er : Int)] 102)) = W at *
    generalize w1.heap.size = D at *
    replace hBt : Below w.heap.size w W := hB0.trans (hBt.mono (by have := hN0.out; omega))
    obtain ⟨t0, t1, t2, f0, f1, f2⟩ := cells3 hCt
    obtain ⟨d0, d1, d2, _, _, _⟩ := cells3 hDt
    by_cases he : er = 0
    · subst he
      go_wp2_with fail
      go_ret2
      refine ⟨?_, hBt⟩
      rw [← hq.out, if_pos (by trivial)]
      rfl
    · have e1 : ((er : Int) != 0) = true := by simp; omega
      go_wp2_with fail
      go_quiet (fail)
      go_wp2_with fail
      go_ret2
      exact ⟨by rw [← hq.out, if_neg he]; rfl, below_drewN hBt _⟩
  · go_simp
    have hC1 : Cells (w0.alloc (.cells #[.slice none 0 0, .int .i64 0, .int .i64 0] 102)) gb (rfL lim s k) := hC.of_block (Below.heap_alloc _ _ _ hgb)
    have hgb1 : gb < (w0.alloc (.cells #[.slice none 0 0, .int .i64 0, .int .i64 0] 102)).heap.size := hC1.lt
    have hD1 : Cells (w0.alloc (.cells #[.slice none 0 0, .int .i64 0, .int .i64 0] 102)) w0.heap.size (cutL (.slice none 0 0) 0 0) := cells3_new w0 _ _ _ _
    have B1 : Below w0.heap.size w0 (w0.alloc (.cells #[.slice none 0 0, .int .i64 0, .int .i64 0] 102)) := (Below.refl _ _).alloc (Nat.le_refl _) _
    have N1 : w0.heap.size < (w0.alloc (.cells #[.slice none 0 0, .int .i64 0, .int .i64 0] 102)).heap.size := hD1.lt
    obtain ⟨a0, a1, a2, _, _, _⟩ := cells3 hC1
    refine hK.out _ _ ⟨a0, a1⟩ (fun _ => ?_)
    clear hK K a0 a1 a2
    generalize (w0.alloc (.cells #[.slice none 0 0, .int .i64 0, .int .i64 0] 102)) = w1 at *
    refine wpAnyH_ready (rs := [8]) (by kernel_rfl) (by simp) ?_
    refine AllReadyH.cons (by simp only [List.getElem?_toArray, List.getElem?_cons_zero, List.getElem?_cons_succ]; exact rfl) (fun K hK => ?_) AllReadyH.nil
    go_simp
    refine (H1 _).out.mono ?_
    rintro r w2 ⟨⟨v, rfl, hown⟩, hb2⟩
    obtain ⟨ad, ln, cp, rfl⟩ := ownS_slice hown
    have hC2 := hC1.of_block (hb2.block gb hgb1)
    have hD2 := hD1.of_block (hb2.block _ hD1.lt)
    obtain ⟨b0, b1, b2, _, _, _⟩ := cells3 hC2
    refine hK.out _ _ ⟨b0, b1⟩ (fun _ => ?_)
    clear hK K
    refine wpAnyH_ready (rs := [10]) (by kernel_rfl) (by simp) ?_
    refine AllReadyH.cons (by simp only [List.getElem?_toArray, List.getElem?_cons_zero, List.getElem?_cons_succ]; exact rfl) (fun K hK => ?_) AllReadyH.nil
    obtain ⟨d0, d1, d2, x0, x1, x2⟩ := cells3 hD2
    go_simp
    have hx : ∀ x, x ≠ w0.heap.size → (((w2.setCell ⟨w0.heap.size, 0, none⟩ (.slice ad ln cp)).setCell ⟨w0.heap.size, 1, none⟩ (.int .i64 (at_ : Int))).setCell ⟨w0.heap.size, 2, none⟩ (.int .i64 (er : Int))).heap[x]? = w2.heap[x]? := fun x hx => by rw [Below.heap_setCell _ _ _ _ hx, Below.heap_setCell _ _ _ _ hx, Below.heap_setCell _ _ _ _ hx]
    have hCt : Cells (((w2.setCell ⟨w0.heap.size, 0, none⟩ (.slice ad ln cp)).setCell ⟨w0.heap.size, 1, none⟩ (.int .i64 (at_ : Int))).setCell ⟨w0.heap.size, 2, none⟩ (.int .i64 (er : Int))) gb (rfL lim s k) := hC2.of_block (hx gb (by omega))
    have hDt : Cells (((w2.setCell ⟨w0.heap.size, 0, none⟩ (.slice ad ln cp)).setCell ⟨w0.heap.size, 1, none⟩ (.int .i64 (at_ : Int))).setCell ⟨w0.heap.size, 2, none⟩ (.int .i64 (er : Int))) w0.heap.size (cutL (.slice ad ln cp) at_ er) := ((hD2.set 0 (by simp) (.slice ad ln cp)).set 1 (by simp) (.int .i64 (at_ : Int))).set 2 (by simp) (.int .i64 (er : Int))
    have hOt : OwnS (((w2.setCell ⟨w0.heap.size, 0, none⟩ (.slice ad ln cp)).setCell ⟨w0.heap.size, 1, none⟩ (.int .i64 (at_ : Int))).setCell ⟨w0.heap.size, 2, none⟩ (.int .i64 (er : Int))) w0.heap.size (.slice ad ln cp) ms := ownS_base (ownS_block hown (fun g hg _ => hx g (by omega))) (by omega)
    have hBt : Below w0.heap.size w0 (((w2.setCell ⟨w0.heap.size, 0, none⟩ (.slice ad ln cp)).setCell ⟨w0.heap.size, 1, none⟩ (.int .i64 (at_ : Int))).setCell ⟨w0.heap.size, 2, none⟩ (.int .i64 (er : Int))) := by
      have hy : Below w0.heap.size w0 w2 := B1.trans (hb2.mono (by omega))
      refine Below.setCell (Below.setCell (Below.setCell hy ?_ _) ?_ _) ?_ _ <;> exact Nat.le_refl _
    have hAt : ∀ x, (Value.slice ad ln cp).ownBlock = some x → x ≠ w0.heap.size := fun x hx => by have := (hown.lt _ hx).1; omega
    have hDl : w0.heap.size ≤ w0.heap.size := Nat.le_refl _
    clear b0 b1 b2 d0 d1 d2 x0 x1 x2
    obtain ⟨b0, b1, b2, _, _, _⟩ := cells3 hCt
    refine hK.out _ _ ⟨b0, b1⟩ (fun _ => ?_)
    clear hK K
    refine wpAnyH_done (by kernel_rfl) ?_ _
    refine NoPanic.normal ?_
    clear hx hC2 hD2 hC1 hD1 hown hb2 hgb1 B1 N1
    generalize (((w2.setCell ⟨w0.heap.size, 0, none⟩ (.slice ad ln cp)).setCell ⟨w0.heap.size, 1, none⟩ (.int .i64 (at_ : Int))).setCell ⟨w0.heap.size, 2, none⟩ (.int .i64 (er : Int))) = W at *
    obtain ⟨D, hDD⟩ : ∃ D, w0.heap.size = D := ⟨_, rfl⟩
    rw [hDD] at hDt hAt ⊢
    replace hDl : w0.heap.size ≤ D := by omega
    clear hDD
    replace hBt : Below w.heap.size w W := hB0.trans (hBt.mono (by have := hN0.out; omega))
    obtain ⟨t0, t1, t2, f0, f1, f2⟩ := cells3 hCt
    obtain ⟨d0, d1, d2, _, _, _⟩ := cells3 hDt
    by_cases he : er = 0
    · subst he
      go_wp2_with fail
      go_ret2
      refine ⟨?_, hBt⟩
      rw [← hq.out, if_pos (by trivial)]
      rfl
    · have e1 : ((er : Int) != 0) = true := by simp; omega
      go_wp2_with fail
      go_quiet (fail)
      go_wp2_with fail
      go_ret2
      exact ⟨by rw [← hq.out, if_neg he]; rfl, below_drewN hBt _⟩
end Go.Proofs.Ytddkefjcpgdomab
