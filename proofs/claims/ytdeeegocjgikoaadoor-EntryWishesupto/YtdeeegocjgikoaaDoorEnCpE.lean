import Derived.Test.YtdeeegocjgikoaaDoorEnCopy
namespace Go.Proofs.YtdeeegocjgikoaaDoor
open Go.RowKit
set_option linter.unusedVariables false

theorem ld_entry {W : World} {g : Nat} {a b c d : Value} (h : Box W g 25 #[a, b, c, d]) (ha : a.oneCell' = true) (hb : b.oneCell' = true) (hc : c.oneCell' = true) (hd : d.oneCell' = true) : (loadVar 25 ⟨g, 0, none⟩).run Tryd.prog W = .ok (.agg #[a, b, c, d]) W :=
  run_loadVar_row W g 25 25 _ (0, 0) _ h Tryd.underlying25 rfl (by kernel_rfl)

theorem set4_keep (W : World) (g : Nat) (a b c d : Value) (k : Nat) (h : k ≠ g) : ((((W.setCell ⟨g, 0, none⟩ a).setCell ⟨g, 1, none⟩ b).setCell ⟨g, 2, none⟩ c).setCell ⟨g, 3, none⟩ d).heap[k]? = W.heap[k]? := by
  rw [Below.heap_setCell _ _ _ _ h, Below.heap_setCell _ _ _ _ h, Below.heap_setCell _ _ _ _ h, Below.heap_setCell _ _ _ _ h]
theorem set4_below {w W : World} {B g : Nat} {a b c d : Value} (h : Below B w W) (hg : B ≤ g) : Below B w ((((W.setCell ⟨g, 0, none⟩ a).setCell ⟨g, 1, none⟩ b).setCell ⟨g, 2, none⟩ c).setCell ⟨g, 3, none⟩ d) :=
  Below.setCell (Below.setCell (Below.setCell (Below.setCell h hg _) hg _) hg _) hg _

set_option maxRecDepth 100000 in
set_option maxHeartbeats 2000000 in
theorem copyEntry_any (ln : Int) (nm : ByteArray) (kl : List (List UInt8)) (ka : Option Addr) (kc : Nat) (xs : List Atr) (a : Option Addr) (c : Nat) (w : World) (hkl : kl.length ≤ 1048576) (hn : xs.length ≤ 1048576) (hl : ∀ x ∈ xs, x.l.length ≤ 1048576) (hk : Row w ka kl) (h : ARow w a xs) :
    Calls Tryd.prog 8 #[.agg #[.int .i64 ln, .string nm, .slice ka kl.length kc, .slice a xs.length c]] w fun e w' => (∃ g cap g' cap', e = .returned (.agg #[.int .i64 ln, .string nm, .slice (some ⟨g, 0, none⟩) kl.length cap, .slice (some ⟨g', 0, none⟩) xs.length cap']) ∧ Mkd w' w.heap.size g cap kl ∧ ∃ ys, CopyA w' w.heap.size g' cap' xs ys) ∧ Below w.heap.size w w' := by
  obtain ⟨Wa, hWa⟩ : ∃ W, w.alloc (.cells #[.int .i64 ln, .string nm, .slice ka kl.length kc, .slice a xs.length c] 25) = W := ⟨_, rfl⟩
  obtain ⟨Wb, hWb⟩ : ∃ W, Wa.alloc (.cells #[.int .i64 0, .string ⟨#[]⟩, .slice none 0 0, .slice none 0 0] 25) = W := ⟨_, rfl⟩
  have na : Wa.heap.size = w.heap.size + 1 := by rw [← hWa]; simp
  have nb : Wb.heap.size = w.heap.size + 2 := by rw [← hWb, World.size_alloc, na]
  have pa : Box Wa w.heap.size 25 #[.int .i64 ln, .string nm, .slice ka kl.length kc, .slice a xs.length c] := by rw [← hWa]; exact Box.new _ _ _
  have pb : Box Wb w.heap.size 25 #[.int .i64 ln, .string nm, .slice ka kl.length kc, .slice a xs.length c] := by rw [← hWb]; exact pa.past _
  have qb : Box Wb (w.heap.size + 1) 25 #[.int .i64 0, .string ⟨#[]⟩, .slice none 0 0, .slice none 0 0] := by rw [← hWb, ← na]; exact Box.new _ _ _
  have hBb : Below w.heap.size w Wb := by
    rw [← hWb, ← hWa]
    exact ((Below.refl _ _).alloc (Nat.le_refl _) _).alloc (by simp) _
  have hR : Hid (Calls Tryd.prog 20 #[.slice ka kl.length kc] Wb fun e w' => ∃ g cap, e = .returned (.slice (some ⟨g, 0, none⟩) kl.length cap) ∧ Mkd w' Wb.heap.size g cap kl ∧ Below Wb.heap.size Wb w') := roomy_any kl ka kc Wb hkl (hk.below hBb)
  have hA : Hid (∀ W, Below w.heap.size w W → Calls Tryd.prog 12 #[.slice a xs.length c] W fun e w' => (∃ g cap, e = .returned (.slice (some ⟨g, 0, none⟩) xs.length cap) ∧ ∃ ys, CopyA w' W.heap.size g cap xs ys) ∧ Below W.heap.size W w') := fun W hW => copyAttrs_any xs a c W hn hl (h.below hW)
  clear hk h hkl hn hl pa
  have c2 : Wb.cell? ⟨w.heap.size, 2, none⟩ = some (.slice ka kl.length kc) := (pb.cell 2 (by simp)).1
  go_enter Tryd.func8, Tryd.ntmps8
  go_upto_region 1 with fail
  clear hWa hWb na
  go_upto_region 2 with (go_at_call 20; refine hR.out.mono ?_; rintro e w2 ⟨g, cap, rfl, hM, hb2⟩; have p2 := pb.below hb2; have q2 := qb.below hb2; have f2 : w2.cell? ⟨w.heap.size, 2, none⟩ = some (.slice ka kl.length kc) := (p2.cell 2 (by simp)).1; have y2 : w2.frozen? ⟨w.heap.size, 2, none⟩ = false := (p2.cell 2 (by simp)).2)
  obtain ⟨w3, hw3⟩ : ∃ W, w2.setCell ⟨w.heap.size, 2, none⟩ (.slice (some ⟨g, 0, none⟩) kl.length cap) = W := ⟨_, rfl⟩
  rw [hw3]
  have p3 : Box w3 w.heap.size 25 #[.int .i64 ln, .string nm, .slice (some ⟨g, 0, none⟩) kl.length cap, .slice a xs.length c] := by rw [← hw3]; exact p2.set 2 _
  have q3 : Box w3 (w.heap.size + 1) 25 #[.int .i64 0, .string ⟨#[]⟩, .slice none 0 0, .slice none 0 0] := by rw [← hw3]; exact q2.of (Below.heap_setCell _ _ _ _ (by show w.heap.size + 1 ≠ w.heap.size; omega))
  have hM3 : Mkd w3 (w.heap.size + 2) g cap kl := by
    have := hM.lt.1
    rw [← hw3]
    exact (hM.of (Below.heap_setCell _ _ _ _ (by show g ≠ w.heap.size; omega))).base (by omega)
  have hB3 : Below w.heap.size w w3 := by rw [← hw3]; exact (hBb.trans (hb2.mono (by omega))).setCell (p := ⟨w.heap.size, 2, none⟩) (Nat.le_refl _) _
  have hA3 := hA.out w3 hB3
  have hA3' : Hid (Calls Tryd.prog 12 #[.slice a xs.length c] w3 fun e w' => (∃ g cap, e = .returned (.slice (some ⟨g, 0, none⟩) xs.length cap) ∧ ∃ ys, CopyA w' w3.heap.size g cap xs ys) ∧ Below w3.heap.size w3 w') := hA3
  clear hA3 hA hR hw3 p2 q2 f2 y2 hM hb2 c2 pb qb hBb nb
  have c3 : w3.cell? ⟨w.heap.size, 3, none⟩ = some (.slice a xs.length c) := (p3.cell 3 (by simp)).1
  go_upto_region 3 with (go_at_call 12; refine hA3'.out.mono ?_; rintro e w4 ⟨⟨g', cap', rfl, ys, hC⟩, hb4⟩; have p4 := p3.below hb4; have f4 : w4.cell? ⟨w.heap.size, 3, none⟩ = some (.slice a xs.length c) := (p4.cell 3 (by simp)).1; have y4 : w4.frozen? ⟨w.heap.size, 3, none⟩ = false := (p4.cell 3 (by simp)).2)
  obtain ⟨w5, hw5⟩ : ∃ W, w4.setCell ⟨w.heap.size, 3, none⟩ (.slice (some ⟨g', 0, none⟩) xs.length cap') = W := ⟨_, rfl⟩
  rw [hw5]
  have hs3 : w.heap.size + 1 < w3.heap.size := q3.lt
  have p5 : Box w5 w.heap.size 25 #[.int .i64 ln, .string nm, .slice (some ⟨g, 0, none⟩) kl.length cap, .slice (some ⟨g', 0, none⟩) xs.length cap'] := by rw [← hw5]; exact p4.set 3 _
  have q5 : Box w5 (w.heap.size + 1) 25 #[.int .i64 0, .string ⟨#[]⟩, .slice none 0 0, .slice none 0 0] := by rw [← hw5]; exact (q3.below hb4).of (Below.heap_setCell _ _ _ _ (by show w.heap.size + 1 ≠ w.heap.size; omega))
  have hM5 : Mkd w5 (w.heap.size + 2) g cap kl := by
    have := hM3.lt.1
    rw [← hw5]
    exact (hM3.below hb4).of (Below.heap_setCell _ _ _ _ (by show g ≠ w.heap.size; omega))
  have keep5 : ∀ k, w.heap.size + 2 ≤ k → w5.heap[k]? = w4.heap[k]? := fun k hk => by rw [← hw5]; exact Below.heap_setCell _ _ _ _ (by show k ≠ w.heap.size; omega)
  have hB5 : Below w.heap.size w w5 := by rw [← hw5]; exact (hB3.trans (hb4.mono (by omega))).setCell (p := ⟨w.heap.size, 3, none⟩) (Nat.le_refl _) _
  have hCg := hC.lt.1
  clear hw5 hA3' f4 y4 p4 c3 p3 hM3 hB3
  obtain ⟨e0, _⟩ := p5.cell 0 (by simp)
  obtain ⟨e1, _⟩ := p5.cell 1 (by simp)
  obtain ⟨e2, _⟩ := p5.cell 2 (by simp)
  obtain ⟨e3, _⟩ := p5.cell 3 (by simp)
  obtain ⟨g0, z0⟩ := q5.cell 0 (by simp)
  obtain ⟨g1, z1⟩ := q5.cell 1 (by simp)
  obtain ⟨g2, z2⟩ := q5.cell 2 (by simp)
  obtain ⟨g3, z3⟩ := q5.cell 3 (by simp)
  simp only [List.getElem_toArray, List.getElem_cons_zero, List.getElem_cons_succ] at e0 e1 e2 e3 g0 g1 g2 g3
  obtain ⟨Wz, hWz⟩ : ∃ W, (((w5.setCell ⟨w.heap.size + 1, 0, none⟩ (.int .i64 ln)).setCell ⟨w.heap.size + 1, 1, none⟩ (.string nm)).setCell ⟨w.heap.size + 1, 2, none⟩ (.slice (some ⟨g, 0, none⟩) kl.length cap)).setCell ⟨w.heap.size + 1, 3, none⟩ (.slice (some ⟨g', 0, none⟩) xs.length cap') = W := ⟨_, rfl⟩
  have hres : Hid (Box Wz (w.heap.size + 1) 25 #[.int .i64 ln, .string nm, .slice (some ⟨g, 0, none⟩) kl.length cap, .slice (some ⟨g', 0, none⟩) xs.length cap']) := by rw [← hWz]; exact (((q5.set 0 _).set 1 _).set 2 _).set 3 _
  have hkz : ∀ k, w.heap.size + 2 ≤ k → Wz.heap[k]? = w5.heap[k]? := fun k hk => by rw [← hWz]; exact set4_keep _ _ _ _ _ _ _ (by omega)
  have hBz : Below w.heap.size w Wz := by rw [← hWz]; exact set4_below hB5 (by omega)
  have hfin : Hid ((Mkd Wz w.heap.size g cap kl ∧ CopyA Wz w.heap.size g' cap' xs ys) ∧ Below w.heap.size w Wz) := by
    refine ⟨⟨?_, owns_base (owns_same (show World.ownsRow _ _ 32 3 _ _ _ from hC.1) (fun k hk => ?_)) (by omega), fun y hy => ?_, hC.2.2⟩, hBz⟩
    · have := hM5.lt.1
      exact (hM5.of (hkz _ this)).base (by omega)
    · injection hk with hk
      replace hk : g' = k := hk
      rw [hkz k (by omega), keep5 k (by omega)]
    · obtain ⟨gy, e1, e2⟩ := hC.2.1 y hy
      have := e2.lt.1
      exact ⟨gy, e1, (e2.of (by rw [hkz gy (by omega), keep5 gy (by omega)])).base (by omega)⟩
  have hWz' : Hid ((((w5.setCell ⟨w.heap.size + 1, 0, none⟩ (.int .i64 ln)).setCell ⟨w.heap.size + 1, 1, none⟩ (.string nm)).setCell ⟨w.heap.size + 1, 2, none⟩ (.slice (some ⟨g, 0, none⟩) kl.length cap)).setCell ⟨w.heap.size + 1, 3, none⟩ (.slice (some ⟨g', 0, none⟩) xs.length cap') = Wz) := hWz
  clear p5 q5 hM5 keep5 hC hB5 hb4 hCg q3 hWz hkz hBz
  go_wp2_with fail
  rw [hWz'.out]
  exact bodyPost_ret (results_cell _ _ _ rfl _ _ _ _ _ rfl (ld_entry hres.out rfl rfl rfl rfl)) rfl ⟨⟨_, _, _, _, rfl, hfin.out.1.1, ys, hfin.out.1.2⟩, hfin.out.2⟩
end Go.Proofs.YtdeeegocjgikoaaDoor
