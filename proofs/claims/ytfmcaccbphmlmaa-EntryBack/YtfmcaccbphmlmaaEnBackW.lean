import Derived.Test.YtfmcaccbphmlmaaEnSpr
import Derived.Test.YtfmcaccbphmlmaaEnRBack
import Derived.Test.YtfmcaccbphmlmaaEnCpE
namespace Go.Proofs.Ytfmcaccbphmlmaa
open Go.RowKit
set_option linter.unusedVariables false

set_option maxRecDepth 100000 in
set_option maxHeartbeats 2000000 in
theorem entryBack_walk (ln : Int) (nm : ByteArray) (kl : List (List UInt8)) (ka : Option Addr) (kc : Nat) (xs : List Atr) (a : Option Addr) (c : Nat) (w : World) (hkl : kl.length ≤ 1048576) (hn : xs.length ≤ 1048576) (hl : ∀ x ∈ xs, x.l.length ≤ 1048576) (hp : (prs xs).length ≤ 1048576) (hk : Row w ka kl) (h : ARow w a xs) :
    Calls Try.prog 3 #[.agg #[.int .i64 ln, .string nm, .slice ka kl.length kc, .slice a xs.length c]] w fun e w' => e = .returned (.bool true) ∧ Below w.heap.size w w' := by
  obtain ⟨Wa, hWa⟩ : ∃ W, w.alloc (.cells #[.int .i64 ln, .string nm, .slice ka kl.length kc, .slice a xs.length c] 25) = W := ⟨_, rfl⟩
  have pa : Box Wa w.heap.size 25 #[.int .i64 ln, .string nm, .slice ka kl.length kc, .slice a xs.length c] := by rw [← hWa]; exact Box.new _ _ _
  have hB : Below w.heap.size w Wa := by
    rw [← hWa]
    exact (Below.refl _ _).alloc (Nat.le_refl _) _
  have hC : Hid (Calls Try.prog 4 #[.agg #[.int .i64 ln, .string nm, .slice ka kl.length kc, .slice a xs.length c]] Wa fun e w' => (∃ g cap g' cap', e = .returned (.agg #[.int .i64 ln, .string nm, .slice (some ⟨g, 0, none⟩) kl.length cap, .slice (some ⟨g', 0, none⟩) xs.length cap']) ∧ Mkd w' Wa.heap.size g cap kl ∧ ∃ ys, CopyA w' Wa.heap.size g' cap' xs ys) ∧ Below Wa.heap.size Wa w') := copyEntry_any ln nm kl ka kc xs a c Wa hkl hn hl (hk.below hB) (h.below hB)
  obtain ⟨c0, _⟩ := pa.cell 0 (by simp)
  obtain ⟨c1, _⟩ := pa.cell 1 (by simp)
  obtain ⟨c2, _⟩ := pa.cell 2 (by simp)
  obtain ⟨c3, _⟩ := pa.cell 3 (by simp)
  simp only [List.getElem_toArray, List.getElem_cons_zero, List.getElem_cons_succ] at c0 c1 c2 c3
  have H0 : Hid (kl.length ≤ 1048576 ∧ xs.length ≤ 1048576 ∧ (∀ x ∈ xs, x.l.length ≤ 1048576) ∧ (prs xs).length ≤ 1048576 ∧ Row Wa ka kl ∧ ARow Wa a xs ∧ Box Wa w.heap.size 25 #[.int .i64 ln, .string nm, .slice ka kl.length kc, .slice a xs.length c] ∧ Below w.heap.size w Wa) := ⟨hkl, hn, hl, hp, hk.below hB, h.below hB, pa, hB⟩
  clear hkl hn hl hp hk h pa hB
  go_enter Try.func3, Try.ntmps3
  go_upto_region 2 with (go_at_call 4; refine hC.out.mono ?_; rintro e w1 ⟨⟨gk, ck, g, cap, rfl, hM, ys, hY⟩, hb1⟩)
  clear c0 c1 c2 c3 hWa hC
  have hs1 : Wa.heap.size ≤ w1.heap.size := hb1.size
  obtain ⟨w2, hw2⟩ : ∃ W, w1.alloc (.cells #[.int .i64 ln, .string nm, .slice (some ⟨gk, 0, none⟩) kl.length ck, .slice (some ⟨g, 0, none⟩) xs.length cap] 25) = W := ⟨_, rfl⟩
  rw [hw2]
  have hb2 : Below w1.heap.size w1 w2 := by rw [← hw2]; exact (Below.refl _ _).alloc (Nat.le_refl _) _
  have p2 : Box w2 w1.heap.size 25 #[.int .i64 ln, .string nm, .slice (some ⟨gk, 0, none⟩) kl.length ck, .slice (some ⟨g, 0, none⟩) xs.length cap] := by rw [← hw2]; exact Box.new _ _ _
  obtain ⟨c0, _⟩ := p2.cell 0 (by simp)
  obtain ⟨c1, _⟩ := p2.cell 1 (by simp)
  obtain ⟨c2, _⟩ := p2.cell 2 (by simp)
  obtain ⟨c3, _⟩ := p2.cell 3 (by simp)
  simp only [List.getElem_toArray, List.getElem_cons_zero, List.getElem_cons_succ] at c0 c1 c2 c3
  have hq : prs ys = prs xs := prs_pl hY.2.2
  have H2 : Hid (Mkd w2 Wa.heap.size gk ck kl ∧ CopyA w2 Wa.heap.size g cap xs ys ∧ Box w2 w1.heap.size 25 #[.int .i64 ln, .string nm, .slice (some ⟨gk, 0, none⟩) kl.length ck, .slice (some ⟨g, 0, none⟩) xs.length cap] ∧ Below Wa.heap.size Wa w2) := ⟨hM.below hb2, hY.below hb2, p2, hb1.trans (hb2.mono hs1)⟩
  have hBk : Hid (Calls Try.prog 5 #[.agg #[.int .i64 ln, .string nm, .slice (some ⟨gk, 0, none⟩) kl.length ck, .slice (some ⟨g, 0, none⟩) xs.length cap]] w2 fun e w' => (∃ v, e = .returned (.agg #[.int .i64 ln, .string nm, v]) ∧ OwnP w' w2.heap.size v (prs xs)) ∧ Below w2.heap.size w2 w') := by
    have hz := back_any ln nm (some ⟨gk, 0, none⟩) kl.length ck ys (some ⟨g, 0, none⟩) cap w2 (by rw [hY.len]; exact H0.out.2.1) (by rw [hq]; exact H0.out.2.2.2.1) H2.out.2.1.row
    rw [hq, hY.len] at hz
    exact hz
  clear hw2 p2 hM hb1 hs1 hb2 hY hq
  go_upto_region 3 with (go_at_call 5; refine hBk.out.mono ?_; rintro e w3 ⟨⟨v, rfl, hO⟩, hb3⟩; obtain ⟨va, vc, rfl, _⟩ := owns_slice (show World.ownsRow _ _ 39 2 _ _ _ from hO))
  clear c0 c1 c2 c3 hBk
  obtain ⟨w4, hw4⟩ : ∃ W, w3.alloc (.cells #[.int .i64 ln, .string nm, .slice va (prs xs).length vc] 29) = W := ⟨_, rfl⟩
  rw [hw4]
  have hb4 : Below w3.heap.size w3 w4 := by rw [← hw4]; exact (Below.refl _ _).alloc (Nat.le_refl _) _
  have p4 : Box w4 w3.heap.size 29 #[.int .i64 ln, .string nm, .slice va (prs xs).length vc] := by rw [← hw4]; exact Box.new _ _ _
  have hb24 : Below w2.heap.size w2 w4 := hb3.trans (hb4.mono hb3.size)
  obtain ⟨_, _, hv1, hR3⟩ := pRow_of hO
  injection hv1 with e1 _ e3
  subst e1 e3
  have hba4 : Below Wa.heap.size Wa w4 := H2.out.2.2.2.trans (hb24.mono H2.out.2.2.2.size)
  have q4 := H0.out.2.2.2.2.2.2.1.below hba4
  obtain ⟨c0, _⟩ := q4.cell 0 (by simp)
  obtain ⟨c1, _⟩ := q4.cell 1 (by simp)
  obtain ⟨c2, _⟩ := q4.cell 2 (by simp)
  obtain ⟨c3, _⟩ := q4.cell 3 (by simp)
  simp only [List.getElem_toArray, List.getElem_cons_zero, List.getElem_cons_succ] at c0 c1 c2 c3
  have H4 : Hid (PRow w4 va (prs xs) ∧ Box w4 w3.heap.size 29 #[.int .i64 ln, .string nm, .slice va (prs xs).length vc] ∧ Box w4 w1.heap.size 25 #[.int .i64 ln, .string nm, .slice (some ⟨gk, 0, none⟩) kl.length ck, .slice (some ⟨g, 0, none⟩) xs.length cap] ∧ Box w4 w.heap.size 25 #[.int .i64 ln, .string nm, .slice ka kl.length kc, .slice a xs.length c] ∧ Mkd w4 Wa.heap.size gk ck kl ∧ CopyA w4 Wa.heap.size g cap xs ys ∧ Row w4 ka kl ∧ ARow w4 a xs ∧ Below w.heap.size w w4) := ⟨hR3.below hb4, p4, H2.out.2.2.1.below hb24, q4, H2.out.1.below hb24, H2.out.2.1.below hb24, H0.out.2.2.2.2.1.below hba4, H0.out.2.2.2.2.2.1.below hba4, H0.out.2.2.2.2.2.2.2.trans (hba4.mono H0.out.2.2.2.2.2.2.2.size)⟩
  have hRb : Hid (Calls Try.prog 6 #[.agg #[.int .i64 ln, .string nm, .slice ka kl.length kc, .slice a xs.length c]] w4 fun e w' => (∃ v, e = .returned (.agg #[.int .i64 ln, .string nm, v]) ∧ OwnP w' w4.heap.size v (prs xs)) ∧ Below w4.heap.size w4 w') := rback_any ln nm ka kl.length kc xs a c w4 H0.out.2.1 H0.out.2.2.2.1 H4.out.2.2.2.2.2.2.2.1
  clear hw4 p4 hb4 hb24 hO hb3 hR3 hba4 q4 H2
  go_upto_region 4 with (go_at_call 6; refine hRb.out.mono ?_; rintro e w5 ⟨⟨u, rfl, hO⟩, hb5⟩; obtain ⟨ua, uc, rfl, _⟩ := owns_slice (show World.ownsRow _ _ 39 2 _ _ _ from hO))
  clear c0 c1 c2 c3 hRb
  obtain ⟨w6, hw6⟩ : ∃ W, w5.alloc (.cells #[.int .i64 ln, .string nm, .slice ua (prs xs).length uc] 29) = W := ⟨_, rfl⟩
  rw [hw6]
  have hb6 : Below w5.heap.size w5 w6 := by rw [← hw6]; exact (Below.refl _ _).alloc (Nat.le_refl _) _
  have p6 : Box w6 w5.heap.size 29 #[.int .i64 ln, .string nm, .slice ua (prs xs).length uc] := by rw [← hw6]; exact Box.new _ _ _
  have hb46 : Below w4.heap.size w4 w6 := hb5.trans (hb6.mono hb5.size)
  obtain ⟨_, _, hv1, hR5⟩ := pRow_of hO
  injection hv1 with e1 _ e3
  subst e1 e3
  obtain ⟨k1, k2, k3, k4, k5, k6, k7, k8, k9⟩ := H4.out
  have b2 := k2.below hb46
  obtain ⟨c0, _⟩ := b2.cell 0 (by simp)
  obtain ⟨c1, _⟩ := b2.cell 1 (by simp)
  obtain ⟨c2, _⟩ := b2.cell 2 (by simp)
  obtain ⟨d0, _⟩ := p6.cell 0 (by simp)
  obtain ⟨d1, _⟩ := p6.cell 1 (by simp)
  obtain ⟨d2, _⟩ := p6.cell 2 (by simp)
  simp only [List.getElem_toArray, List.getElem_cons_zero, List.getElem_cons_succ] at c0 c1 c2 d0 d1 d2
  have hSR : Hid (Calls Try.prog 7 #[.agg #[.int .i64 ln, .string nm, .slice va (prs xs).length vc], .agg #[.int .i64 ln, .string nm, .slice ua (prs xs).length uc]] w6 fun e w' => e = .returned (.bool true) ∧ Below w6.heap.size w6 w') := sameRecord_any ln nm (prs xs) va ua vc uc w6 H0.out.2.2.2.1 (k1.below hb46) (hR5.below hb6)
  have hES : ∀ W, Below w6.heap.size w6 W → Hid (Calls Try.prog 8 #[.agg #[.int .i64 ln, .string nm, .slice (some ⟨gk, 0, none⟩) kl.length ck, .slice (some ⟨g, 0, none⟩) xs.length cap], .agg #[.int .i64 ln, .string nm, .slice ka kl.length kc, .slice a xs.length c]] W fun e w' => e = .returned (.bool true) ∧ Below W.heap.size W w') := fun W hW => by
    have hz : Below w4.heap.size w4 W := hb46.trans (hW.mono hb46.size)
    exact entrySpared_any ln nm kl _ gk ck ka kc xs ys g cap a c W H0.out.1 H0.out.2.1 H0.out.2.2.1 (k5.below hz) (k6.below hz) (k7.below hz) (k8.below hz)
  have hcs : ∀ W, Below w6.heap.size w6 W → (W.cell? ⟨w1.heap.size, 0, none⟩ = some (.int .i64 ln) ∧ W.cell? ⟨w1.heap.size, 1, none⟩ = some (.string nm) ∧ W.cell? ⟨w1.heap.size, 2, none⟩ = some (.slice (some ⟨gk, 0, none⟩) kl.length ck) ∧ W.cell? ⟨w1.heap.size, 3, none⟩ = some (.slice (some ⟨g, 0, none⟩) xs.length cap)) ∧ (W.cell? ⟨w.heap.size, 0, none⟩ = some (.int .i64 ln) ∧ W.cell? ⟨w.heap.size, 1, none⟩ = some (.string nm) ∧ W.cell? ⟨w.heap.size, 2, none⟩ = some (.slice ka kl.length kc) ∧ W.cell? ⟨w.heap.size, 3, none⟩ = some (.slice a xs.length c)) := fun W hW => by
    have hz : Below w4.heap.size w4 W := hb46.trans (hW.mono hb46.size)
    have x3 := k3.below hz
    have x4 := k4.below hz
    exact ⟨⟨(x3.cell 0 (by simp)).1, (x3.cell 1 (by simp)).1, (x3.cell 2 (by simp)).1, (x3.cell 3 (by simp)).1⟩, ⟨(x4.cell 0 (by simp)).1, (x4.cell 1 (by simp)).1, (x4.cell 2 (by simp)).1, (x4.cell 3 (by simp)).1⟩⟩
  have hend : Hid (Below w.heap.size w w6) := k9.trans (hb46.mono k9.size)
  clear hw6 p6 hb6 hO hb5 hR5 k1 k2 k3 k4 k5 k6 k7 k8 k9 b2 H4 hb46 H0
  go_wp2_with (first | (go_at_call 7; refine hSR.out.mono ?_; rintro e w7 ⟨rfl, hb7⟩; obtain ⟨⟨x0, x1, x2, x3⟩, ⟨y0, y1, y2, y3⟩⟩ := hcs w7 hb7; have hES7 := hES w7 hb7; clear c0 c1 c2 d0 d1 d2 hcs hES) | (go_at_call 8; refine hES7.out.mono ?_; rintro e w8 ⟨rfl, hb8⟩))
  go_ret
  exact ⟨rfl, hend.out.trans ((hb7.trans (hb8.mono hb7.size)).mono hend.out.size)⟩
end Go.Proofs.Ytfmcaccbphmlmaa
