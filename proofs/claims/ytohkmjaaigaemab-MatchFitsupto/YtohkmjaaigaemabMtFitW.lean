import Derived.Test.YtohkmjaaigaemabMtSame
import Derived.Test.YtohkmjaaigaemabMtFit1
import Derived.Test.YtohkmjaaigaemabMtFit3
namespace Go.Proofs.Ytohkmjaaigaemab
open Go.RowKit
open FitM (progF refP prog_ref prog_none)
set_option linter.unusedVariables false

theorem fitQ_eq {P : Prop} {b : Bool} {e : Ending} (h : FitQ P e) (hb : b = true ↔ P) : e = .returned (.bool b) := by
  obtain ⟨x, rfl, hx⟩ := h
  have : x = b := by rw [Bool.eq_iff_iff, hx, hb]
  rw [this]
set_option maxRecDepth 100000 in
set_option maxHeartbeats 4000000 in
theorem matchFits_walk (v i f : ByteArray) (l : List (List UInt8)) (a : Option Addr) (c : Nat) (m : Int) (w : World) (hm : w.cell? ⟨0, 0, none⟩ = some (.int .i64 m)) (hr : Row w a l)
    (hv : v.size ≤ 1048576) (hi : i.size ≤ 1048576) (hf : f.size ≤ 1048576) (hl : l.length ≤ 1048576) (hls : ∀ x ∈ l, x.length ≤ 1048576) :
    Calls Try.prog 3 #[.string v, .agg #[.string i, .slice a l.length c, .string f]] w fun e w' => e = .returned (.bool true) ∧ Below w.heap.size w w' := by
  obtain ⟨W0, hW0⟩ : ∃ W0, w.alloc (.cells #[.string i, .slice a l.length c, .string f] 24) = W0 := ⟨_, rfl⟩
  have hB0 : Below w.heap.size w W0 := by rw [← hW0]; exact (Below.refl _ _).alloc (Nat.le_refl _) _
  have p0 : PatV W0 w.heap.size i (.slice a l.length c) f := by rw [← hW0]; exact heap_alloc_last w _
  have hC := copied_any i f l a c W0 (hr.below hB0) (by omega)
  have n0 : Hid (W0.heap.size = w.heap.size + 1) := by unfold Hid; rw [← hW0, World.size_alloc]
  have hI0 : Hid (PatV W0 w.heap.size i (.slice a l.length c) f ∧ Below w.heap.size w W0) := ⟨p0, hB0⟩
  have hz : Hid (v.size ≤ 4194304 ∧ i.size ≤ 4194304 ∧ f.size ≤ 4194304 ∧ l.length ≤ 4194304 ∧ ∀ x ∈ l, x.length ≤ 4194304) := ⟨by omega, by omega, by omega, by omega, fun x hx => by have := hls x hx; omega⟩
  have hm' : Hid (w.cell? ⟨0, 0, none⟩ = some (.int .i64 m)) := hm
  have hbl : Hid (0 < w.heap.size) := World.block_lt_of_cell? w _ hm
  have hpr : Hid (progF v.data.toList i.data.toList l f.data.toList = true ↔ refP v.data.toList i.data.toList l f.data.toList) := prog_ref _ _ _ _
  obtain ⟨⟨c0, z0⟩, ⟨c1, z1⟩, ⟨c2, z2⟩⟩ := p0.cells
  clear hr hm hls hv hi hf hl p0 hB0
  go_enter Try.func3, Try.ntmps3
  go_wp2_with fail
  refine hC.mono ?_
  rintro e W1 ⟨⟨v1, rfl, hO1⟩, hb1⟩
  obtain ⟨ka, kn, kc, rfl, hkn, hk1⟩ := ownS_row (k := []) (by rw [List.append_nil]; exact hO1)
  rw [List.append_nil] at hkn
  subst hkn
  clear c0 z0 c1 z1 c2 z2
  obtain ⟨W2, hW2⟩ : ∃ W, W1.alloc (.cells #[.string i, .slice ka l.length kc, .string f] 24) = W := ⟨_, rfl⟩
  have hB2 : Below W1.heap.size W1 W2 := by rw [← hW2]; exact (Below.refl _ _).alloc (Nat.le_refl _) _
  have n2 : Hid (W2.heap.size = W1.heap.size + 1 ∧ w.heap.size < W1.heap.size) := ⟨by rw [← hW2, World.size_alloc], Nat.lt_of_lt_of_le hI0.out.1.lt hb1.size⟩
  have q1 : PatV W2 w.heap.size i (.slice a l.length c) f := (hI0.out.1.of_block (hb1.block _ hI0.out.1.lt)).of_block (hB2.block _ n2.out.2)
  have q2 : PatV W2 W1.heap.size i (.slice ka l.length kc) f := by rw [← hW2]; exact heap_alloc_last W1 _
  have hk2 : Row W2 ka l := hk1.below hB2
  have hO2 : Hid (OwnS W2 W0.heap.size (.slice ka l.length kc) l) := ownS_below hO1 hB2
  have o2 : Hid (Below w.heap.size w W2) := (hI0.out.2.trans (hb1.mono hI0.out.2.size)).trans (hB2.mono (by have := n2.out; omega))
  have hRo := roomy_any i f l ka kc W2 hk2 hz.out.2.2.2.1
  have hQ2 : Hid (PatV W2 w.heap.size i (.slice a l.length c) f ∧ PatV W2 W1.heap.size i (.slice ka l.length kc) f ∧ Row W2 ka l) := ⟨q1, q2, hk2⟩
  obtain ⟨⟨d0, y0⟩, ⟨d1, y1⟩, ⟨d2, y2⟩⟩ := q2.cells
  clear hC hO1 hb1 hk1 hB2 q1 q2 hk2 hI0
  go_wp2_with fail
  refine hRo.mono ?_
  rintro e W3 ⟨⟨g, cap, rfl, hO3⟩, hb3⟩
  clear d0 y0 d1 y1 d2 y2 hRo
  have n3 : Hid (w.heap.size < W3.heap.size ∧ W1.heap.size < W3.heap.size ∧ w.heap.size < W1.heap.size ∧ w.heap.size < W2.heap.size) := by have := n2.out; have := hb3.size; exact ⟨by omega, by omega, by omega, by omega⟩
  have r1 : PatV W3 w.heap.size i (.slice a l.length c) f := hQ2.out.1.of_block (hb3.block _ hQ2.out.1.lt)
  have r2 : PatV W3 W1.heap.size i (.slice ka l.length kc) f := hQ2.out.2.1.of_block (hb3.block _ hQ2.out.2.1.lt)
  obtain ⟨W4, hW4⟩ : ∃ W, ((W3.setCell ⟨w.heap.size, 0, none⟩ (.string i)).setCell ⟨w.heap.size, 1, none⟩ (.slice (some ⟨g, 0, none⟩) l.length cap)).setCell ⟨w.heap.size, 2, none⟩ (.string f) = W := ⟨_, rfl⟩
  have hblk : ∀ x, x ≠ w.heap.size → W4.heap[x]? = W3.heap[x]? := fun x hx => by
    rw [← hW4, Below.heap_setCell _ _ _ _ (by show x ≠ w.heap.size; exact hx), Below.heap_setCell _ _ _ _ (by show x ≠ w.heap.size; exact hx), Below.heap_setCell _ _ _ _ (by show x ≠ w.heap.size; exact hx)]
  have r4 : PatV W4 w.heap.size i (.slice (some ⟨g, 0, none⟩) l.length cap) f := by rw [← hW4]; exact r1.whole
  have r5 : PatV W4 W1.heap.size i (.slice ka l.length kc) f := r2.of_block (hblk _ (by have := n3.out; omega))
  have hgB := ownS_cap hO3
  have hO4 : OwnS W4 W2.heap.size (.slice (some ⟨g, 0, none⟩) (l.length + 1) cap) (l ++ [spL]) := ownS_of6 hO3 (hblk g (by have := n3.out; omega))
  have o3 : Below w.heap.size w W3 := o2.out.trans (hb3.mono o2.out.size)
  have o4 : Below w.heap.size w W4 := by
    rw [← hW4]
    refine Below.setCell (Below.setCell (Below.setCell o3 ?_ _) ?_ _) ?_ _ <;> exact Nat.le_refl _
  have n4 : W4.heap.size = W3.heap.size := by rw [← hW4]; simp [World.setCell]
  have hk4 : Row W4 ka l := by
    have hOk : OwnS W4 W0.heap.size (.slice ka l.length kc) l := ownS_block (ownS_below hO2.out hb3) (fun x hx _ => hblk x (by have := n0.out; omega))
    obtain ⟨a', n', c', e', _, h'⟩ := ownS_row (k := []) (by rw [List.append_nil]; exact hOk)
    injection e' with e1 _ _
    subst e1
    exact h'
  have hg4 : Row W4 (some ⟨g, 0, none⟩) l := by
    obtain ⟨a', n', c', e', _, h'⟩ := ownS_row hO4
    injection e' with e1 _ _
    subst e1
    exact h'
  have hm4 : W4.cell? ⟨0, 0, none⟩ = some (.int .i64 m) := (o4.cell hbl.out).trans hm'.out
  have hF := fits_any v i f l (some ⟨g, 0, none⟩) cap m W4 hm4 hg4 hz.out.1 hz.out.2.2.2.1
  have hI4 : Hid (PatV W4 w.heap.size i (.slice (some ⟨g, 0, none⟩) l.length cap) f ∧ PatV W4 W1.heap.size i (.slice ka l.length kc) f ∧ OwnS W4 W2.heap.size (.slice (some ⟨g, 0, none⟩) (l.length + 1) cap) (l ++ [spL]) ∧ Row W4 ka l ∧ Row W4 (some ⟨g, 0, none⟩) l ∧ Below w.heap.size w W4) := ⟨r4, r5, hO4, hk4, hg4, o4⟩
  obtain ⟨⟨c0, z0⟩, ⟨c1, z1⟩, ⟨c2, z2⟩⟩ := r1.cells
  obtain ⟨⟨d0, y0⟩, ⟨d1, y1⟩, ⟨d2, y2⟩⟩ := r4.cells
  obtain ⟨x, hx⟩ : ∃ x, progF v.data.toList i.data.toList l f.data.toList = x := ⟨_, rfl⟩
  rw [hx] at hF hpr
  clear hx r1 r2 r4 r5 hO4 hk4 hg4 o3 o4 hm4 hO3 hb3 hgB hblk n4 hQ2 hO2 o2 hW2
  go_wp2_with fail
  refine hF.mono ?_
  rintro e W5 ⟨rfl, hb5⟩
  have p5 : PatV W5 W1.heap.size i (.slice ka l.length kc) f := hI4.out.2.1.of_block (hb5.block _ hI4.out.2.1.lt)
  have hb5' : Hid (Below W4.heap.size W4 W5) := hb5
  have hRf := refFits_any v i f l ka kc W5 (hI4.out.2.2.2.1.below hb5) hz.out.1 hz.out.2.1 hz.out.2.2.1 hz.out.2.2.2.1 hz.out.2.2.2.2
  clear c0 z0 c1 z1 c2 z2 d0 y0 d1 y1 d2 y2 hF hb5
  obtain ⟨⟨d0, y0⟩, ⟨d1, y1⟩, ⟨d2, y2⟩⟩ := p5.cells
  clear p5 hW4
  go_wp2_with fail
  refine hRf.mono ?_
  rintro e W6 ⟨hq, hb6⟩
  obtain rfl := fitQ_eq hq hpr.out
  clear hq hRf d0 y0 d1 y1 d2 y2
  have hb46 : Below W4.heap.size W4 W6 := hb5'.out.trans (hb6.mono hb5'.out.size)
  have p6 : PatV W6 w.heap.size i (.slice (some ⟨g, 0, none⟩) l.length cap) f := hI4.out.1.of_block (hb46.block _ hI4.out.1.lt)
  have p7 : PatV W6 W1.heap.size i (.slice ka l.length kc) f := hI4.out.2.1.of_block (hb46.block _ hI4.out.2.1.lt)
  have hSa := samePat_any i f l (some ⟨g, 0, none⟩) ka cap kc W6 hz.out.2.2.2.1 (hI4.out.2.2.2.2.1.below hb46) (hI4.out.2.2.2.1.below hb46)
  have hb46' : Hid (Below W4.heap.size W4 W6) := hb46
  obtain ⟨⟨c0, z0⟩, ⟨c1, z1⟩, ⟨c2, z2⟩⟩ := p6.cells
  obtain ⟨⟨d0, y0⟩, ⟨d1, y1⟩, ⟨d2, y2⟩⟩ := p7.cells
  clear hb6 hb46 p6 p7 hb5' hpr
  go_wp2_with fail
  refine hSa.mono ?_
  rintro e W7 ⟨rfl, hb7⟩
  have hb47 : Below W4.heap.size W4 W7 := hb46'.out.trans (hb7.mono hb46'.out.size)
  have p8 : PatV W7 w.heap.size i (.slice (some ⟨g, 0, none⟩) l.length cap) f := hI4.out.1.of_block (hb47.block _ hI4.out.1.lt)
  have hSp := spared_any i f l g cap W2.heap.size W7 (ownS_of6 hI4.out.2.2.1 (hb47.block _ (ownS_cap hI4.out.2.2.1).2.2)) hz.out.2.2.2.1
  have hb47' : Hid (Below W4.heap.size W4 W7) := hb47
  clear c0 z0 c1 z1 c2 z2 d0 y0 d1 y1 d2 y2 hSa hb7 hb46' hb47
  obtain ⟨⟨c0, z0⟩, ⟨c1, z1⟩, ⟨c2, z2⟩⟩ := p8.cells
  clear p8
  go_wp2_with fail
  refine hSp.mono ?_
  rintro e W8 ⟨rfl, hb8⟩
  have hb48 : Hid (Below W4.heap.size W4 W8) := hb47'.out.trans (hb8.mono hb47'.out.size)
  have o8 : Hid (Below w.heap.size w W8) := hI4.out.2.2.2.2.2.trans (hb48.out.mono hI4.out.2.2.2.2.2.size)
  have hFn := fits_any v ⟨#[]⟩ ⟨#[]⟩ [] none 0 m W8 ((o8.out.cell hbl.out).trans hm'.out) (fun j hj => by simp at hj) hz.out.1 (by simp)
  rw [show progF v.data.toList (⟨#[]⟩ : ByteArray).data.toList [] (⟨#[]⟩ : ByteArray).data.toList = true from prog_none _] at hFn
  clear c0 z0 c1 z1 c2 z2 hSp hb8 hb47' hb48
  go_wp2_with fail
  refine hFn.mono ?_
  rintro e W9 ⟨rfl, hb9⟩
  have o9 : Hid (Below w.heap.size w W9) := o8.out.trans (hb9.mono o8.out.size)
  clear hFn hb9 o8
  go_wp2_with fail
  go_ret
  exact ⟨rfl, o9.out⟩
end Go.Proofs.Ytohkmjaaigaemab
