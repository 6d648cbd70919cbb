import Derived.Test.YtdeeegocjgikoaaDoorEnRSel
import Derived.Test.YtdeeegocjgikoaaDoorEnCpE
namespace Go.Proofs.YtdeeegocjgikoaaDoor
open Go.RowKit
set_option linter.unusedVariables false

theorem pl_canons {xs ys : List Atr} (h : ys.map pl = xs.map pl) (hl : ∀ x ∈ xs, x.c.length ≤ 1048576) : ∀ y ∈ ys, y.c.length ≤ 1048576 := fun y hy => by
  have h1 : pl y ∈ ys.map pl := List.mem_map_of_mem hy
  rw [h] at h1
  obtain ⟨x, hx, e⟩ := List.mem_map.1 h1
  have e2 : x.c = y.c := congrArg (fun t => t.2.1) e
  rw [← e2]
  exact hl x hx
theorem sel_sizes {q : List UInt8 → Bool} {ty : Bool} {xs zs : List Atr} (h : zs.map pl = selL q ty xs) (hl : ∀ x ∈ xs, x.l.length ≤ 1048576) : ∀ z ∈ zs, z.l.length ≤ 1048576 := fun z hz => by
  have h1 : pl z ∈ zs.map pl := List.mem_map_of_mem hz
  rw [h] at h1
  unfold selL at h1
  obtain ⟨x, hx, e⟩ := List.mem_map.1 h1
  have e2 : (if ty then [] else x.l) = z.l := congrArg (fun t => t.2.2) e
  rw [← e2]
  split
  · simp
  · exact hl x ((List.mem_filter.1 hx).1)
theorem sel_len {q : List UInt8 → Bool} {ty : Bool} {xs zs : List Atr} (h : zs.map pl = selL q ty xs) : zs.length = (selL q ty xs).length := by
  have := congrArg List.length h
  simpa using this

set_option maxRecDepth 100000 in
set_option maxHeartbeats 2000000 in
theorem entrySelect_walk (ty : Bool) (l : List (List UInt8)) (wa : Option Addr) (wcp : Nat) (ln : Int) (nm : ByteArray) (kl : List (List UInt8)) (ka : Option Addr) (kc : Nat) (xs : List Atr) (a : Option Addr) (c : Nat) (w : World) (hlw : l.length ≤ 1048576) (hlz : ∀ t ∈ l, t.length ≤ 1048576) (hkl : kl.length ≤ 1048576) (hn : xs.length ≤ 1048576) (hl : ∀ x ∈ xs, x.l.length ≤ 1048576) (hx : ∀ x ∈ xs, x.c.length ≤ 1048576) (hw : Row w wa l) (hk : Row w ka kl) (h : ARow w a xs) (hK : KndTab w) (hS : SupTab w) (hT : NumTab w) :
    Calls Tryd.prog 6 #[.agg #[.int .i64 ln, .string nm, .slice ka kl.length kc, .slice a xs.length c], .slice wa l.length wcp, .bool ty] w fun e w' => e = .returned (.bool true) ∧ Below w.heap.size w w' := by
  obtain ⟨Wa, hWa⟩ : ∃ W, w.alloc (.cells #[.int .i64 ln, .string nm, .slice ka kl.length kc, .slice a xs.length c] 25) = W := ⟨_, rfl⟩
  have pa : Box Wa w.heap.size 25 #[.int .i64 ln, .string nm, .slice ka kl.length kc, .slice a xs.length c] := by rw [← hWa]; exact Box.new _ _ _
  have hB : Below w.heap.size w Wa := by
    rw [← hWa]
    exact (Below.refl _ _).alloc (Nat.le_refl _) _
  have hCp : Hid (Calls Tryd.prog 8 #[.agg #[.int .i64 ln, .string nm, .slice ka kl.length kc, .slice a xs.length c]] Wa fun e w' => (∃ g cap g' cap', e = .returned (.agg #[.int .i64 ln, .string nm, .slice (some ⟨g, 0, none⟩) kl.length cap, .slice (some ⟨g', 0, none⟩) xs.length cap']) ∧ Mkd w' Wa.heap.size g cap kl ∧ ∃ ys, CopyA w' Wa.heap.size g' cap' xs ys) ∧ Below Wa.heap.size Wa w') := copyEntry_any ln nm kl ka kc xs a c Wa hkl hn hl (hk.below hB) (h.below hB)
  obtain ⟨c0, _⟩ := pa.cell 0 (by simp)
  obtain ⟨c1, _⟩ := pa.cell 1 (by simp)
  obtain ⟨c2, _⟩ := pa.cell 2 (by simp)
  obtain ⟨c3, _⟩ := pa.cell 3 (by simp)
  simp only [List.getElem_toArray, List.getElem_cons_zero, List.getElem_cons_succ] at c0 c1 c2 c3
  have H0 : Hid ((kl.length ≤ 1048576 ∧ xs.length ≤ 1048576 ∧ (∀ x ∈ xs, x.l.length ≤ 1048576) ∧ (∀ x ∈ xs, x.c.length ≤ 1048576) ∧ l.length ≤ 1048576 ∧ ∀ t ∈ l, t.length ≤ 1048576) ∧ (Row Wa ka kl ∧ ARow Wa a xs ∧ Row Wa wa l) ∧ Box Wa w.heap.size 25 #[.int .i64 ln, .string nm, .slice ka kl.length kc, .slice a xs.length c] ∧ Below w.heap.size w Wa ∧ KndTab Wa ∧ SupTab Wa ∧ NumTab Wa) := ⟨⟨hkl, hn, hl, hx, hlw, hlz⟩, ⟨hk.below hB, h.below hB, hw.below hB⟩, pa, hB, hK.below hB, hS.below hB, hT.below hB⟩
  clear hkl hn hl hk h pa hB hK hS hT hx hlw hlz hw
  go_enter Tryd.func6, Tryd.ntmps6
  go_upto_region 2 with (go_at_call 8; refine hCp.out.mono ?_; rintro e w1 ⟨⟨gk, ck, g, cap, rfl, hM, ys, hY⟩, hb1⟩)
  clear c0 c1 c2 c3 hWa hCp
  obtain ⟨⟨h1, h2, h3, h4, h5, h6⟩, ⟨r1, r2, r3⟩, h8, h9, hK, hS, hT⟩ := H0.out
  have hs1 : Wa.heap.size ≤ w1.heap.size := hb1.size
  obtain ⟨w2, hw2⟩ : ∃ W, w1.alloc (.cells #[.int .i64 ln, .string nm, .slice (some ⟨gk, 0, none⟩) kl.length ck, .slice (some ⟨g, 0, none⟩) xs.length cap] 25) = W := ⟨_, rfl⟩
  rw [hw2]
  have hb2 : Below w1.heap.size w1 w2 := by rw [← hw2]; exact (Below.refl _ _).alloc (Nat.le_refl _) _
  have p2 : Box w2 w1.heap.size 25 #[.int .i64 ln, .string nm, .slice (some ⟨gk, 0, none⟩) kl.length ck, .slice (some ⟨g, 0, none⟩) xs.length cap] := by rw [← hw2]; exact Box.new _ _ _
  have hba : Below Wa.heap.size Wa w2 := hb1.trans (hb2.mono hs1)
  have hq : selL (wants l) ty ys = selL (wants l) ty xs := selL_pl _ _ hY.2.2
  have hY2 := hY.below hb2
  have hM2 := hM.below hb2
  have hlen := hY.len
  have hyc := pl_canons hY.2.2 h4
  have hyl := pl_sizes hY.2.2 h3
  have hRm : Hid (Calls Tryd.prog 20 #[.slice wa l.length wcp] w2 fun e w' => ∃ g cap, e = .returned (.slice (some ⟨g, 0, none⟩) l.length cap) ∧ Mkd w' w2.heap.size g cap l ∧ Below w2.heap.size w2 w') := roomy_any l wa wcp w2 h5 (r3.below hba)
  have HW : Hid (∀ W, Below w2.heap.size w2 W → Mkd W Wa.heap.size gk ck kl ∧ CopyA W Wa.heap.size g cap xs ys ∧ Box W w1.heap.size 25 #[.int .i64 ln, .string nm, .slice (some ⟨gk, 0, none⟩) kl.length ck, .slice (some ⟨g, 0, none⟩) xs.length cap] ∧ Box W w.heap.size 25 #[.int .i64 ln, .string nm, .slice ka kl.length kc, .slice a xs.length c] ∧ Row W ka kl ∧ ARow W a xs ∧ Below w.heap.size w W ∧ Row W wa l) := fun W hW => by
    have hz : Below Wa.heap.size Wa W := hba.trans (hW.mono hba.size)
    exact ⟨hM2.below hW, hY2.below hW, p2.below hW, h8.below hz, r1.below hz, r2.below hz, h9.trans (hz.mono h9.size), r3.below hz⟩
  have HV : Hid (∀ W (gt ct : Nat), Below w2.heap.size w2 W → Row W (some ⟨gt, 0, none⟩) l → Calls Tryd.prog 7 #[.agg #[.int .i64 ln, .string nm, .slice (some ⟨gk, 0, none⟩) kl.length ck, .slice (some ⟨g, 0, none⟩) xs.length cap], .slice (some ⟨gt, 0, none⟩) l.length ct, .bool ty] W fun e w' => (∃ v zs, e = .returned v ∧ MadeA w' W.heap.size v zs ∧ zs.map pl = selL (wants l) ty xs) ∧ Below W.heap.size W w') := fun W gt ct hW hr => by
    have hz : Below Wa.heap.size Wa W := hba.trans (hW.mono hba.size)
    have hh := selectT_any ty l (some ⟨gt, 0, none⟩) ct ln nm (some ⟨gk, 0, none⟩) kl.length ck ys (some ⟨g, 0, none⟩) cap W h5 h6 hr (by rw [hlen]; exact h2) hyc hyl (hY2.below hW).row (hS.below hz) (hT.below hz)
    rw [hq, hlen] at hh
    exact hh
  have HRV : Hid (∀ W, Below w2.heap.size w2 W → Calls Tryd.prog 21 #[.agg #[.int .i64 ln, .string nm, .slice ka kl.length kc, .slice a xs.length c], .slice wa l.length wcp, .bool ty] W fun e w' => (∃ v zs, e = .returned v ∧ MadeA w' W.heap.size v zs ∧ zs.map pl = selL (wants l) ty xs) ∧ Below W.heap.size W w') := fun W hW => by
    have hz : Below Wa.heap.size Wa W := hba.trans (hW.mono hba.size)
    exact rselect_any ty l wa wcp ln nm ka kl.length kc xs a c W h5 h6 (r3.below hz) h2 h4 h3 (r2.below hz) (hK.below hz) (hT.below hz)
  have HS : Hid (∀ W, Below w2.heap.size w2 W → Calls Tryd.prog 19 #[.agg #[.int .i64 ln, .string nm, .slice (some ⟨gk, 0, none⟩) kl.length ck, .slice (some ⟨g, 0, none⟩) xs.length cap], .agg #[.int .i64 ln, .string nm, .slice ka kl.length kc, .slice a xs.length c]] W fun e w' => e = .returned (.bool true) ∧ Below W.heap.size W w') := fun W hW => by
    obtain ⟨m1, m2, m3, m4, m5, m6, m7, _⟩ := HW.out W hW
    exact entrySpared_any ln nm kl _ gk ck ka kc xs ys g cap a c W h1 h2 h3 m1 m2 m5 m6
  have hcs : Hid (∀ W, Below w2.heap.size w2 W → (W.cell? ⟨w1.heap.size, 0, none⟩ = some (.int .i64 ln) ∧ W.cell? ⟨w1.heap.size, 1, none⟩ = some (.string nm) ∧ W.cell? ⟨w1.heap.size, 2, none⟩ = some (.slice (some ⟨gk, 0, none⟩) kl.length ck) ∧ W.cell? ⟨w1.heap.size, 3, none⟩ = some (.slice (some ⟨g, 0, none⟩) xs.length cap)) ∧ (W.cell? ⟨w.heap.size, 0, none⟩ = some (.int .i64 ln) ∧ W.cell? ⟨w.heap.size, 1, none⟩ = some (.string nm) ∧ W.cell? ⟨w.heap.size, 2, none⟩ = some (.slice ka kl.length kc) ∧ W.cell? ⟨w.heap.size, 3, none⟩ = some (.slice a xs.length c))) := fun W hW => by
    obtain ⟨m1, m2, x3, x4, m5, m6, m7, _⟩ := HW.out W hW
    exact ⟨⟨(x3.cell 0 (by simp)).1, (x3.cell 1 (by simp)).1, (x3.cell 2 (by simp)).1, (x3.cell 3 (by simp)).1⟩, ⟨(x4.cell 0 (by simp)).1, (x4.cell 1 (by simp)).1, (x4.cell 2 (by simp)).1, (x4.cell 3 (by simp)).1⟩⟩
  have hvl : Hid (l.length ≤ 1048576 ∧ xs.length ≤ 1048576 ∧ ∀ x ∈ xs, x.l.length ≤ 1048576) := ⟨h5, h2, h3⟩
  clear hw2 p2 hM hb1 hs1 hb2 hY hq hY2 hM2 hlen hyc hyl h1 h2 h3 h4 h5 h6 r1 r2 r3 h8 h9 hK hS hT H0 hba
  go_upto_region 3 with (go_at_call 20; refine hRm.out.mono ?_; rintro e w3 ⟨gt, ct, rfl, hMt, hb3⟩)
  clear hRm
  have hb3' : Hid (Below w2.heap.size w2 w3 ∧ Mkd w3 w2.heap.size gt ct l) := ⟨hb3, hMt⟩
  obtain ⟨⟨x0, x1, x2, x3⟩, _⟩ := hcs.out w3 hb3
  clear hb3 hMt
  go_upto_region 4 with (go_at_call 7; refine (HV.out w3 gt ct hb3'.out.1 hb3'.out.2.row.front).mono ?_; rintro e w4 ⟨⟨v, zs, rfl, hZ, hZm⟩, hb4⟩; obtain ⟨va, vc, rfl, hZr, _⟩ := hZ.row)
  clear x0 x1 x2 x3
  have hb24 : Hid (Below w2.heap.size w2 w4) := hb3'.out.1.trans (hb4.mono hb3'.out.1.size)
  have H4 : Hid (MadeA w4 w3.heap.size (.slice va zs.length vc) zs ∧ zs.map pl = selL (wants l) ty xs ∧ Mkd w4 w2.heap.size gt ct l) := ⟨hZ, hZm, hb3'.out.2.below hb4⟩
  obtain ⟨_, ⟨y0, y1, y2, y3⟩⟩ := hcs.out w4 hb24.out
  clear hZ hZr hb4 hZm hb3'
  go_upto_region 5 with (go_at_call 21; refine (HRV.out w4 hb24.out).mono ?_; rintro e w5 ⟨⟨u, zt, rfl, hU, hUm⟩, hb5⟩; obtain ⟨ua, uc, rfl, hUr, _⟩ := hU.row)
  clear y0 y1 y2 y3
  have hb25 : Below w2.heap.size w2 w5 := hb24.out.trans (hb5.mono hb24.out.size)
  have hlz : zt.length = zs.length := by rw [sel_len hUm, sel_len H4.out.2.1]
  rw [hlz]
  have hzn : zs.length ≤ 1048576 := by
    rw [sel_len H4.out.2.1]
    exact Nat.le_trans (selL_le _ _ _) hvl.out.2.1
  have g5 : Hid (Calls Tryd.prog 10 #[.slice va zs.length vc, .slice ua zs.length uc] w5 fun e w' => e = .returned (.bool true) ∧ ∃ q, w' = w5.drewN q) := by
    obtain ⟨va', vc', hv', hr', _⟩ := (H4.out.1.below hb5).row
    injection hv' with q1 _ q3
    subst q1 q3
    have hh := sameAttrs_any zs zt va ua vc uc w5 hzn (sel_sizes H4.out.2.1 hvl.out.2.2) hr' hUr (by rw [H4.out.2.1, hUm])
    exact hh
  have g6 : Hid (∀ q, Calls Tryd.prog 19 #[.agg #[.int .i64 ln, .string nm, .slice (some ⟨gk, 0, none⟩) kl.length ck, .slice (some ⟨g, 0, none⟩) xs.length cap], .agg #[.int .i64 ln, .string nm, .slice ka kl.length kc, .slice a xs.length c]] (w5.drewN q) fun e w' => e = .returned (.bool true) ∧ Below (w5.drewN q).heap.size (w5.drewN q) w') := fun q => HS.out _ (hb25.trans (drewN_below _ _ _))
  have g7 : Hid (∀ W, Below w5.heap.size w5 W → (Calls Tryd.prog 18 #[.slice (some ⟨gt, 0, none⟩) l.length ct, .slice wa l.length wcp] W fun e w' => e = .returned (.bool true) ∧ ∃ q, w' = W.drewN q) ∧ ∀ q, Calls Tryd.prog 22 #[.slice (some ⟨gt, 0, none⟩) l.length ct] (W.drewN q) fun e w' => e = .returned (.bool true) ∧ w' = W.drewN q) := fun W hW => by
    have hz : Below w2.heap.size w2 W := hb25.trans (hW.mono hb25.size)
    have hMk : Mkd W w2.heap.size gt ct l := (H4.out.2.2.below hb5).below hW
    exact ⟨sameT_any l _ _ ct wcp W (by have := hvl.out.1; omega) hMk.row.front (HW.out W hz).2.2.2.2.2.2.2, fun q => spared_any l _ gt ct _ hvl.out.1 (hMk.drewN q)⟩
  obtain ⟨⟨x0, x1, x2, x3⟩, ⟨y0, y1, y2, y3⟩⟩ := hcs.out w5 hb25
  have hend : Hid (Below w.heap.size w w5) := (HW.out w5 hb25).2.2.2.2.2.2.1
  clear hb25 hb5 H4 HV HRV HS HW hcs hU hUm hUr hlz hzn hb24
  go_wp2_with (first | (go_at_call 10; refine g5.out.mono ?_; rintro e w7 ⟨rfl, q7, rfl⟩) | (go_at_call 19; refine (g6.out _).mono ?_; rintro e w8 ⟨rfl, hb8⟩; have g8 := g7.out w8 ((drewN_below _ _ q7).trans hb8)) | (go_at_call 18; refine g8.1.mono ?_; rintro e w9 ⟨rfl, q9, rfl⟩) | (go_at_call 22; refine (g8.2 _).mono ?_; rintro e w10 ⟨rfl, rfl⟩))
  go_ret
  exact ⟨rfl, (hend.out.trans (((drewN_below _ _ _).trans hb8).mono hend.out.size)).trans (drewN_below _ _ _)⟩
end Go.Proofs.YtdeeegocjgikoaaDoor
