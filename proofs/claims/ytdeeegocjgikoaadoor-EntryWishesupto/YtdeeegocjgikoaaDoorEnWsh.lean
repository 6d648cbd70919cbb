import Derived.Test.YtdeeegocjgikoaaDoorEnLHas
import Derived.Test.YtdeeegocjgikoaaDoorEnAll
namespace Go.Proofs.YtdeeegocjgikoaaDoor
open Go.RowKit
open TextMath (fold lo)
set_option linter.unusedVariables false

theorem wants_ne {l : List (List UInt8)} (h : l ≠ []) (c : List UInt8) : wants l c = l.any fun t => askQ t c := by
  unfold wants wishT
  rw [if_neg h]
theorem wants_app {A B : List (List UInt8)} (ha : A ≠ []) (hb : B ≠ []) (c : List UInt8) : wants (A ++ B) c = (wants A c || wants B c) := by
  rw [wants_ne ha, wants_ne hb, wants_ne (by simp [ha]), List.any_append]
theorem wants_turn {A B : List (List UInt8)} (ha : A ≠ []) (hb : B ≠ []) : wants (B ++ A ++ B) = wants (A ++ B) := by
  funext c
  rw [wants_app (by simp [hb]) hb, wants_app hb ha, wants_app ha hb]
  cases wants A c <;> cases wants B c <;> rfl
theorem sel_zero {q : List UInt8 → Bool} {ty : Bool} {x : Atr} (h : q x.c = false) : selL q ty [x] = [] := by
  unfold selL
  simp [h]
theorem sel_mem {q : List UInt8 → Bool} {xs zs : List Atr} {x : Atr} (hz : zs.map pl = selL q false xs) (hx : x ∈ xs) (hq : q x.c = true) {y : Atr} (hy : pl y = (x.d, [], x.l)) : (zs.any fun z => decide (pl z = pl y)) = true := by
  have h1 : (x.d, [], x.l) ∈ zs.map pl := by
    rw [hz]
    unfold selL
    exact List.mem_map.2 ⟨x, List.mem_filter.2 ⟨hx, hq⟩, rfl⟩
  obtain ⟨z, hz1, hz2⟩ := List.mem_map.1 h1
  exact List.any_eq_true.2 ⟨z, hz1, by rw [hy]; simpa using hz2⟩
theorem own_emptyW (w : World) : OwnS (w.alloc (.cells #[] 9)) w.heap.size (.slice (some ⟨w.heap.size, 0, none⟩) 0 0) [] :=
  ⟨rfl, Or.inr ⟨w.heap.size, 0, #[], rfl, Nat.le_refl _, heap_alloc_new w _, Nat.le_refl _, by unfold maxLen; omega, rfl, rfl⟩⟩
/-- A row, copied onto a list that has just been laid. -/
theorem copy_newW (w : World) (l : List (List UInt8)) (a : Option Addr) (c : Nat) (hl : l.length ≤ 1048576) (h1 : Row w a l) :
    ∃ a' c' w1, (Builtin.append_ #[22, 22] 22 #[.slice (some ⟨w.heap.size, 0, none⟩) 0 0, .slice a l.length c]).run Tryd.prog (w.alloc (.cells #[] 9)) = .ok (.slice a' l.length c') w1 ∧ OwnS w1 w.heap.size (.slice a' l.length c') l ∧ Below w.heap.size w w1 := by
  have hbE : Below w.heap.size w (w.alloc (.cells #[] 9)) := (Below.refl _ _).alloc (Nat.le_refl _) _
  obtain ⟨v1, w1, hr1, ho1, hb1⟩ := append_row _ w.heap.size _ [] l a l.length c (own_emptyW w) (h1.below hbE) rfl hbE.size (by simp; omega)
  rw [List.nil_append] at ho1
  obtain ⟨a', c', rfl, _⟩ := owns_slice (show World.ownsRow _ _ 9 1 _ _ _ from ho1)
  exact ⟨a', c', w1, hr1, ho1, hbE.trans hb1⟩
/-- A row more behind it. -/
theorem copy_moreW (w : World) (B : Nat) (k l : List (List UInt8)) (a0 : Option Addr) (c0 : Nat) (a : Option Addr) (c : Nat) (hl : k.length + l.length ≤ 4194304) (ho : OwnS w B (.slice a0 k.length c0) k) (hB : B ≤ w.heap.size) (h1 : Row w a l) :
    ∃ a' c' w1, (Builtin.append_ #[22, 22] 22 #[.slice a0 k.length c0, .slice a l.length c]).run Tryd.prog w = .ok (.slice a' (k ++ l).length c') w1 ∧ OwnS w1 B (.slice a' (k ++ l).length c') (k ++ l) ∧ Below B w w1 := by
  obtain ⟨v1, w1, hr1, ho1, hb1⟩ := append_row w B _ k l a l.length c ho h1 rfl hB (by omega)
  obtain ⟨a', c', rfl, _⟩ := owns_slice (show World.ownsRow _ _ 9 1 _ _ _ from ho1)
  exact ⟨a', c', w1, hr1, ho1, hb1⟩

theorem len_two {A B : List (List UInt8)} (h : A.length ≤ 1048576 ∧ B.length ≤ 1048576) : A.length + B.length ≤ 4194304 := by omega
theorem len_two' {A B : List (List UInt8)} (h : A.length ≤ 1048576 ∧ B.length ≤ 1048576) : B.length + A.length ≤ 4194304 := by omega
theorem len_three {A B : List (List UInt8)} (h : A.length ≤ 1048576 ∧ B.length ≤ 1048576) : (B ++ A).length + B.length ≤ 4194304 := by rw [List.length_append]; omega
theorem two_sizes {A B : List (List UInt8)} (h : A.length ≤ 1048576 ∧ B.length ≤ 1048576) (hA : ∀ t ∈ A, t.length ≤ 1048576) (hB : ∀ t ∈ B, t.length ≤ 1048576) : (A ++ B).length ≤ 4194304 ∧ ∀ t ∈ A ++ B, t.length ≤ 1048576 := by
  refine ⟨by rw [List.length_append]; omega, fun t ht => ?_⟩
  rcases List.mem_append.1 ht with ht | ht
  · exact hA t ht
  · exact hB t ht
theorem three_sizes {A B : List (List UInt8)} (h : A.length ≤ 1048576 ∧ B.length ≤ 1048576) (hA : ∀ t ∈ A, t.length ≤ 1048576) (hB : ∀ t ∈ B, t.length ≤ 1048576) : (B ++ A ++ B).length ≤ 4194304 ∧ ∀ t ∈ B ++ A ++ B, t.length ≤ 1048576 := by
  refine ⟨by rw [List.length_append, List.length_append]; omega, fun t ht => ?_⟩
  rcases List.mem_append.1 ht with ht | ht
  · rcases List.mem_append.1 ht with ht | ht
    · exact hB t ht
    · exact hA t ht
  · exact hB t ht
theorem len_ne {A : List (List UInt8)} (h : A ≠ []) : ((A.length : Int) == 0) = false := by
  rw [beq_eq_false_iff_ne]
  intro e
  exact h (List.eq_nil_of_length_eq_zero (by omega))

theorem mea {n i : Nat} (h : i < n) : n - ((i : Int) + 1).toNat < n - ((i : Int)).toNat := by omega
theorem iw0 (N : Nat) (h : N ≤ 1048576) : IntKind.i64.wrap (N : Int) = (N : Int) ∧ wrap64 (N : Int) = (N : Int) ∧ wrap64 ((N : Int) + 1) = (N : Int) + 1 ∧ IntKind.i64.wrap ((N : Int) + 1) = (N : Int) + 1 := by
  refine ⟨?_, ?_, ?_, iw N h⟩
  · rw [IntKind.wrap_i64]; omega
  · rw [IntWalk.wrap64_in] <;> omega
  · rw [IntWalk.wrap64_in] <;> omega
theorem one_len {q : List UInt8 → Bool} {zs : List Atr} {x : Atr} (h : zs.map pl = selL q false [x]) (b : Bool) (hq : q x.c = b) : zs.length = if b then 1 else 0 := by
  have h1 := selA_len h
  cases b with
  | true => rw [h1, sel_one hq]; rfl
  | false => rw [h1, sel_zero hq]; rfl
theorem sel_next (q : List UInt8 → Bool) (xs : List Atr) (i : Nat) (hi : i < xs.length) (b : Bool) (hq : q xs[i].c = b) : (selL q false (xs.take (i + 1))).length = (selL q false (xs.take i)).length + (if b then 1 else 0) := by
  rw [List.take_succ_eq_append_getElem hi, selL_snoc, List.length_append, hq]
  cases b <;> rfl
theorem sel_small (q : List UInt8 → Bool) (xs : List Atr) (i : Nat) (h : xs.length ≤ 1048576) : (selL q false (xs.take i)).length ≤ 1048576 := by
  have h1 := selL_le q false (xs.take i)
  rw [List.length_take] at h1
  omega

set_option maxRecDepth 100000 in
set_option maxHeartbeats 8000000 in
theorem entryWishes_core (A B : List (List UInt8)) (aa ba : Option Addr) (ac bc : Nat) (ln : Int) (nm : ByteArray) (kl : List (List UInt8)) (ka : Option Addr) (kc : Nat) (xs : List Atr) (a : Option Addr) (c : Nat) (w : World) (hA : A ≠ []) (hBn : B ≠ []) (hAl : A.length ≤ 1048576) (hBl : B.length ≤ 1048576) (hAz : ∀ t ∈ A, t.length ≤ 1048576) (hBz : ∀ t ∈ B, t.length ≤ 1048576) (hc : xs.length ≤ c) (hkl : kl.length ≤ 1048576) (hn : xs.length ≤ 1048576) (hl : ∀ x ∈ xs, x.l.length ≤ 1048576) (hx : ∀ x ∈ xs, x.c.length ≤ 1048576) (hrA : Row w aa A) (hrB : Row w ba B) (hk : Row w ka kl) (h : ARow w a xs) (hS : SupTab w) (hT : NumT3 w) :
    Calls Tryd.prog 3 #[.agg #[.int .i64 ln, .string nm, .slice ka kl.length kc, .slice a xs.length c], .slice aa A.length ac, .slice ba B.length bc] w fun e w' => e = .returned (.bool true) ∧ Below w.heap.size w w' := by
  obtain ⟨Wa, hWa⟩ : ∃ W, w.alloc (.cells #[.int .i64 ln, .string nm, .slice ka kl.length kc, .slice a xs.length c] 25) = W := ⟨_, rfl⟩
  have pa : Box Wa w.heap.size 25 #[.int .i64 ln, .string nm, .slice ka kl.length kc, .slice a xs.length c] := by rw [← hWa]; exact Box.new _ _ _
  have hB : Below w.heap.size w Wa := by
    rw [← hWa]
    exact (Below.refl _ _).alloc (Nat.le_refl _) _
  have hCp : Hid (∀ W, Below Wa.heap.size Wa W → Calls Tryd.prog 8 #[.agg #[.int .i64 ln, .string nm, .slice ka kl.length kc, .slice a xs.length c]] W fun e w' => (∃ g cap g' cap', e = .returned (.agg #[.int .i64 ln, .string nm, .slice (some ⟨g, 0, none⟩) kl.length cap, .slice (some ⟨g', 0, none⟩) xs.length cap']) ∧ Mkd w' W.heap.size g cap kl ∧ ∃ ys, CopyA w' W.heap.size g' cap' xs ys) ∧ Below W.heap.size W w') := fun W hW => copyEntry_any ln nm kl ka kc xs a c W hkl hn hl ((hk.below hB).below hW) ((h.below hB).below hW)
  have hcs : Hid (∀ W, Below Wa.heap.size Wa W → W.cell? ⟨w.heap.size, 0, none⟩ = some (.int .i64 ln) ∧ W.cell? ⟨w.heap.size, 1, none⟩ = some (.string nm) ∧ W.cell? ⟨w.heap.size, 2, none⟩ = some (.slice ka kl.length kc) ∧ W.cell? ⟨w.heap.size, 3, none⟩ = some (.slice a xs.length c)) := fun W hW => by
    have x4 := pa.below hW
    exact ⟨(x4.cell 0 (by simp)).1, (x4.cell 1 (by simp)).1, (x4.cell 2 (by simp)).1, (x4.cell 3 (by simp)).1⟩
  have hSel : Hid (∀ W B (gk ck g cap : Nat) (ys : List Atr) (wa : Option Addr) (lc : Nat) (l : List (List UInt8)), Below Wa.heap.size Wa W → CopyA W B g cap xs ys → Row W wa l → l.length ≤ 4194304 → (∀ t ∈ l, t.length ≤ 1048576) → Calls Tryd.prog 7 #[.agg #[.int .i64 ln, .string nm, .slice (some ⟨gk, 0, none⟩) kl.length ck, .slice (some ⟨g, 0, none⟩) xs.length cap], .slice wa l.length lc, .bool false] W fun e w' => (∃ v zs, e = .returned v ∧ MadeA w' W.heap.size v zs ∧ zs.map pl = selL (wants l) false xs) ∧ Below W.heap.size W w') := fun W B gk ck g cap ys wa lc l hW hY hr hll hlz => by
    have hz : Below w.heap.size w W := hB.trans (hW.mono hB.size)
    have hh := selectT_any false l wa lc ln nm (some ⟨gk, 0, none⟩) kl.length ck ys (some ⟨g, 0, none⟩) cap W hll hlz hr (by rw [hY.len]; exact hn) (pl_canonsA hY.2.2 hx) (pl_sizes hY.2.2 hl) hY.row (hS.below hz) (hT.below hz)
    rw [selL_pl _ _ hY.2.2, hY.len] at hh
    exact hh
  have hSt : Hid (∀ W, Below Wa.heap.size Wa W → Calls Tryd.prog 9 #[.slice a xs.length c, .bool false] W fun e w' => (∃ g cap zs, e = .returned (.slice (some ⟨g, 0, none⟩) xs.length cap) ∧ ARow w' (some ⟨g, 0, none⟩) zs ∧ zs.map pl = selL (fun _ => true) false xs ∧ xs.length ≤ cap) ∧ Below W.heap.size W w') := fun W hW => stripped_any false xs a c W hn hl ((h.below hB).below hW)
  have hSm : Hid (∀ W (zs zt : List Atr) (p q : Option Addr) (pc qc : Nat), zs.length ≤ 1048576 → (∀ z ∈ zs, z.l.length ≤ 1048576) → ARow W p zs → ARow W q zt → zs.map pl = zt.map pl → Calls Tryd.prog 10 #[.slice p zs.length pc, .slice q zs.length qc] W fun e w' => e = .returned (.bool true) ∧ ∃ n, w' = W.drewN n) := fun W zs zt p q pc qc h1 h2 h3 h4 h5 => sameAttrs_any zs zt p q pc qc W h1 h2 h3 h4 h5
  have hA0 : Hid (∀ W, Below Wa.heap.size Wa W → ARow W a xs ∧ SupTab W ∧ NumT3 W ∧ Below w.heap.size w W ∧ Row W aa A ∧ Row W ba B) := fun W hW => ⟨(h.below hB).below hW, (hS.below hB).below hW, (hT.below hB).below hW, hB.trans (hW.mono hB.size), (hrA.below hB).below hW, (hrB.below hB).below hW⟩
  have hsz : Hid (∀ x ∈ xs, x.l.length ≤ 1048576 ∧ x.c.length ≤ 1048576) := fun x hxm => ⟨hl x hxm, hx x hxm⟩
  have hlA := len_ne hA
  have hlB := len_ne hBn
  have hAB : Hid ((A ≠ [] ∧ B ≠ []) ∧ (A.length ≤ 1048576 ∧ B.length ≤ 1048576) ∧ (∀ t ∈ A, t.length ≤ 1048576) ∧ (∀ t ∈ B, t.length ≤ 1048576)) := ⟨⟨hA, hBn⟩, ⟨hAl, hBl⟩, hAz, hBz⟩
  clear hkl hl hx hk h hS hT pa hB hA hBn hAl hBl hAz hBz hrA hrB
  go_enter Tryd.func3, Tryd.ntmps3
  obtain ⟨c0, c1, c2, c3⟩ := hcs.out Wa (Below.refl Wa.heap.size Wa)
  go_upto_region 4 with (first | (go_at_call 8; refine (hCp.out Wa (Below.refl Wa.heap.size Wa)).mono ?_; rintro e y1 ⟨⟨gk, ck, g, cap, rfl, hM, ys, hY⟩, hb1⟩; have hbY : Below Wa.heap.size Wa (y1.alloc (.cells #[.string ⟨#[42]⟩, .string ⟨#[43]⟩] 9)) := ((Below.refl Wa.heap.size Wa).trans (hb1.mono (Below.refl Wa.heap.size Wa).size)).alloc ((Below.refl Wa.heap.size Wa).trans (hb1.mono (Below.refl Wa.heap.size Wa).size)).size _; have hr2 : Row (y1.alloc (.cells #[.string ⟨#[42]⟩, .string ⟨#[43]⟩] 9)) (some ⟨y1.heap.size, 0, none⟩) [starT, plusT] := row_new y1 [starT, plusT]; have hY2 := hY.below (W' := (y1.alloc (.cells #[.string ⟨#[42]⟩, .string ⟨#[43]⟩] 9))) ((Below.refl _ _).alloc (Nat.le_refl _) _); have hyA : Below Wa.heap.size Wa (y1.alloc (.cells #[.string ⟨#[42]⟩, .string ⟨#[43]⟩] 9)) := hb1.alloc hb1.size _) | (go_at_call 7; refine (hSel.out _ _ gk ck g cap ys (some ⟨y1.heap.size, 0, none⟩) 2 [starT, plusT] hbY hY2 hr2 (by decide) (by decide)).mono ?_; rintro e x1 ⟨⟨v, z1, rfl, hZ, hZm⟩, hb3⟩; obtain ⟨a1, k1, rfl, hZr, _⟩ := hZ.row))
  have hX1 : Hid (Below Wa.heap.size Wa x1 ∧ Below Wa.heap.size Wa x1) := ⟨hbY.trans (hb3.mono hbY.size), hyA.trans (hb3.mono hyA.size)⟩
  have hZ1 : Hid (ARow x1 a1 z1 ∧ z1.map pl = selL (wants [starT, plusT]) false xs) := ⟨hZr, hZm⟩
  clear c0 c1 c2 c3 hM hY hb1 hbY hY2 hr2 hyA hZ hZr hZm hb3
  clear hWa hlA hlB
  obtain ⟨c0, c1, c2, c3⟩ := hcs.out x1 hX1.out.1
  go_upto_region 5 with (go_at_call 9; refine (hSt.out x1 hX1.out.1).mono ?_; rintro e s1 ⟨⟨gw, capw, zw, rfl, hWr, hWm, hWc⟩, hb1⟩)
  have hXs : Hid (Below Wa.heap.size Wa s1) := hX1.out.1.trans (hb1.mono hX1.out.1.size)
  have hZw : Hid (ARow s1 (some ⟨gw, 0, none⟩) zw ∧ zw.map pl = selL (fun _ => true) false xs ∧ xs.length ≤ capw) := ⟨hWr, hWm, hWc⟩
  have hl1 : z1.length = xs.length := by rw [selA_len hZ1.out.2, sel_two, sel_allLen]
  have g1 : Hid (Calls Tryd.prog 10 #[.slice a1 z1.length k1, .slice (some ⟨gw, 0, none⟩) z1.length capw] s1 fun e w' => e = .returned (.bool true) ∧ ∃ n, w' = s1.drewN n) := hSm.out s1 z1 zw a1 _ k1 capw (by rw [hl1]; exact hn) (selA_sizes hZ1.out.2 (fun x hx => (hsz.out x hx).1)) (hZ1.out.1.below hb1) hWr (by rw [hZ1.out.2, hWm, sel_two])
  rw [hl1] at g1 ⊢
  clear c0 c1 c2 c3 hWr hWm hWc hb1 hl1
  go_upto_region 7 with (go_at_call 10; refine g1.out.mono ?_; rintro e s2 ⟨rfl, n1, rfl⟩)
  have hS2 : Hid (Below Wa.heap.size Wa (s1.drewN n1) ∧ ARow (s1.drewN n1) (some ⟨gw, 0, none⟩) zw) := ⟨hXs.out.trans (drewN_below _ _ _), hZw.out.1.below (drewN_below _ _ _)⟩
  have hZw2 : Hid (zw.map pl = selL (fun _ => true) false xs ∧ xs.length ≤ capw) := hZw.out.2
  clear g1 hZ1 hX1 hXs hZw
  generalize s1.drewN n1 = s2 at *
  obtain ⟨pa1, pc1, t1, hr1, ho1, hbt1⟩ := copy_newW s2 A aa ac hAB.out.2.1.1 (hA0.out s2 hS2.out.1).2.2.2.2.1
  have hB1 : Below Wa.heap.size Wa t1 := hS2.out.1.trans (hbt1.mono hS2.out.1.size)
  obtain ⟨pa2, pc2, t2, hr2, ho2, hbt2⟩ := copy_moreW t1 s2.heap.size A B pa1 pc1 ba bc (len_two hAB.out.2.1) ho1 hbt1.size (hA0.out t1 hB1).2.2.2.2.2
  have hB2 : Below Wa.heap.size Wa t2 := hB1.trans (hbt2.mono hS2.out.1.size)
  have hBs2 : Below s2.heap.size s2 t2 := hbt1.trans hbt2
  obtain ⟨L1, hL1⟩ : ∃ L, A ++ B = L := ⟨_, rfl⟩
  rw [hL1] at hr2 ho2
  go_upto_region 8 with (first | (at_builtin; refine Lib.wpList_append_run _ rfl _ _ _ _ rfl _ _ rfl rfl _ _ hr1 ?_; clear hr1) | (at_builtin; refine Lib.wpList_append_run _ rfl _ _ _ _ rfl _ _ rfl rfl _ _ hr2 ?_; clear hr2))
  have H2 : Hid (Below Wa.heap.size Wa t2 ∧ ARow t2 (some ⟨gw, 0, none⟩) zw ∧ Row t2 pa2 L1 ∧ A ++ B = L1) := ⟨hB2, hS2.out.2.below hBs2, (ownS_row ho2).1, hL1⟩
  clear ho1 hbt1 hB1 ho2 hbt2 hB2 hBs2 hS2 hL1
  obtain ⟨pa3, pc3, t3, hr3, ho3, hbt3⟩ := copy_newW t2 B ba bc hAB.out.2.1.2 (hA0.out t2 H2.out.1).2.2.2.2.2
  have hB3 : Below Wa.heap.size Wa t3 := H2.out.1.trans (hbt3.mono H2.out.1.size)
  obtain ⟨pa4, pc4, t4, hr4, ho4, hbt4⟩ := copy_moreW t3 t2.heap.size B A pa3 pc3 aa ac (len_two' hAB.out.2.1) ho3 hbt3.size (hA0.out t3 hB3).2.2.2.2.1
  have hB4 : Below Wa.heap.size Wa t4 := hB3.trans (hbt4.mono H2.out.1.size)
  have hs24 : t2.heap.size ≤ t4.heap.size := Nat.le_trans hbt3.size hbt4.size
  obtain ⟨pa5, pc5, t5, hr5, ho5, hbt5⟩ := copy_moreW t4 t2.heap.size (B ++ A) B pa4 pc4 ba bc (len_three hAB.out.2.1) ho4 hs24 (hA0.out t4 hB4).2.2.2.2.2
  have hB5 : Below Wa.heap.size Wa t5 := hB4.trans (hbt5.mono H2.out.1.size)
  have hBs5 : Below t2.heap.size t2 t5 := (hbt3.trans hbt4).trans hbt5
  obtain ⟨L2, hL2⟩ : ∃ L, B ++ A = L := ⟨_, rfl⟩
  rw [hL2] at hr4 ho4 hr5 ho5
  obtain ⟨L3, hL3⟩ : ∃ L, L2 ++ B = L := ⟨_, rfl⟩
  rw [hL3] at hr5 ho5
  go_upto_region 9 with (first | (at_builtin; refine Lib.wpList_append_run _ rfl _ _ _ _ rfl _ _ rfl rfl _ _ hr3 ?_; clear hr3) | (at_builtin; refine Lib.wpList_append_run _ rfl _ _ _ _ rfl _ _ rfl rfl _ _ hr4 ?_; clear hr4) | (at_builtin; refine Lib.wpList_append_run _ rfl _ _ _ _ rfl _ _ rfl rfl _ _ hr5 ?_; clear hr5))
  have hl1z : L1.length ≤ 4194304 ∧ ∀ t ∈ L1, t.length ≤ 1048576 := by rw [← H2.out.2.2.2]; exact two_sizes hAB.out.2.1 hAB.out.2.2.1 hAB.out.2.2.2
  have hl3z : L3.length ≤ 4194304 ∧ ∀ t ∈ L3, t.length ≤ 1048576 := by rw [← hL3, ← hL2]; exact three_sizes hAB.out.2.1 hAB.out.2.2.1 hAB.out.2.2.2
  have hw13 : Hid (wants L3 = wants L1) := by unfold Hid; rw [← hL3, ← hL2, ← H2.out.2.2.2]; exact wants_turn hAB.out.1.1 hAB.out.1.2
  have hw1 : Hid (∀ d, wants L1 d = (wants A d || wants B d)) := fun d => by rw [← H2.out.2.2.2]; exact wants_app hAB.out.1.1 hAB.out.1.2 d
  have H5 : Hid (Below Wa.heap.size Wa t5 ∧ ARow t5 (some ⟨gw, 0, none⟩) zw ∧ Row t5 pa2 L1 ∧ Row t5 pa5 L3) := ⟨hB5, H2.out.2.1.below hBs5, H2.out.2.2.1.below hBs5, (ownS_row ho5).1⟩
  have hl1z' : Hid (L1.length ≤ 4194304 ∧ ∀ t ∈ L1, t.length ≤ 1048576) := hl1z
  have hl3z' : Hid (L3.length ≤ 4194304 ∧ ∀ t ∈ L3, t.length ≤ 1048576) := hl3z
  clear ho3 hbt3 hB3 ho4 hbt4 hB4 hs24 ho5 hbt5 hB5 hBs5 hL2 hL3 hl1z hl3z H2
  obtain ⟨c0, c1, c2, c3⟩ := hcs.out t5 (H5.out.1)
  go_upto_region 10 with (first | (go_at_call 8; refine (hCp.out t5 (H5.out.1)).mono ?_; rintro e y2 ⟨⟨gk, ck, g, cap, rfl, hM, ys, hY⟩, hb1⟩; have hbY : Below Wa.heap.size Wa y2 := (H5.out.1).trans (hb1.mono (H5.out.1).size); have hyA : Below t5.heap.size t5 y2 := hb1; have hr2 := H5.out.2.2.1.below hb1) | (go_at_call 7; refine (hSel.out _ _ gk ck g cap ys pa2 pc2 L1 hbY hY hr2 hl1z'.out.1 hl1z'.out.2).mono ?_; rintro e x2 ⟨⟨v, z2, rfl, hZ, hZm⟩, hb3⟩; obtain ⟨a2, k2, rfl, hZr, _⟩ := hZ.row))
  have hX2 : Hid (Below Wa.heap.size Wa x2 ∧ Below t5.heap.size t5 x2) := ⟨hbY.trans (hb3.mono hbY.size), hyA.trans (hb3.mono hyA.size)⟩
  have hZ2 : Hid (ARow x2 a2 z2 ∧ z2.map pl = selL (wants L1) false xs) := ⟨hZr, hZm⟩
  clear c0 c1 c2 c3 hM hY hb1 hbY hr2 hyA hZ hZr hZm hb3
  have hr3 : Hid (Row x2 pa5 L3) := H5.out.2.2.2.below hX2.out.2
  obtain ⟨c0, c1, c2, c3⟩ := hcs.out x2 (hX2.out.1)
  go_upto_region 11 with (first | (go_at_call 8; refine (hCp.out x2 (hX2.out.1)).mono ?_; rintro e y3 ⟨⟨gk, ck, g, cap, rfl, hM, ys, hY⟩, hb1⟩; have hbY : Below Wa.heap.size Wa y3 := (hX2.out.1).trans (hb1.mono (hX2.out.1).size); have hyA : Below x2.heap.size x2 y3 := hb1; have hr2 := hr3.out.below hb1) | (go_at_call 7; refine (hSel.out _ _ gk ck g cap ys pa5 pc5 L3 hbY hY hr2 hl3z'.out.1 hl3z'.out.2).mono ?_; rintro e x3 ⟨⟨v, z3, rfl, hZ, hZm⟩, hb3⟩; obtain ⟨a3, k3, rfl, hZr, _⟩ := hZ.row))
  have hX3 : Hid (Below Wa.heap.size Wa x3 ∧ Below x2.heap.size x2 x3) := ⟨hbY.trans (hb3.mono hbY.size), hyA.trans (hb3.mono hyA.size)⟩
  have hZ3 : Hid (ARow x3 a3 z3 ∧ z3.map pl = selL (wants L3) false xs) := ⟨hZr, hZm⟩
  clear c0 c1 c2 c3 hM hY hb1 hbY hr2 hyA hZ hZr hZm hb3
  have h23 : z3.length = z2.length := by rw [selA_len hZ3.out.2, selA_len hZ2.out.2, hw13.out]
  have hzl2 : z2.length ≤ 1048576 := by rw [selA_len hZ2.out.2]; exact Nat.le_trans (selL_le _ _ _) hn
  have g2 : Hid (Calls Tryd.prog 10 #[.slice a2 z2.length k2, .slice a3 z2.length k3] x3 fun e w' => e = .returned (.bool true) ∧ ∃ n, w' = x3.drewN n) := hSm.out x3 z2 z3 a2 a3 k2 k3 hzl2 (selA_sizes hZ2.out.2 (fun x hx => (hsz.out x hx).1)) (hZ2.out.1.below hX3.out.2) hZ3.out.1 (by rw [hZ2.out.2, hZ3.out.2, hw13.out])
  rw [h23]
  have b53 : Below t5.heap.size t5 x3 := hX2.out.2.trans (hX3.out.2.mono hX2.out.2.size)
  have H6 : Hid (Below Wa.heap.size Wa x3 ∧ ARow x3 (some ⟨gw, 0, none⟩) zw ∧ Row x3 pa2 L1 ∧ ARow x3 a2 z2) := ⟨hX3.out.1, H5.out.2.1.below b53, H5.out.2.2.1.below b53, hZ2.out.1.below hX3.out.2⟩
  have hz2m : Hid (z2.map pl = selL (wants L1) false xs ∧ z2.length ≤ 1048576) := ⟨hZ2.out.2, hzl2⟩
  clear hX2 hX3 hZ2 hZ3 h23 b53 hzl2 H5 hr3 hw13
  go_upto_region 13 with (go_at_call 10; refine g2.out.mono ?_; rintro e s3 ⟨rfl, n3, rfl⟩)
  have H7 : Hid (Below Wa.heap.size Wa (x3.drewN n3) ∧ ARow (x3.drewN n3) (some ⟨gw, 0, none⟩) zw ∧ Row (x3.drewN n3) pa2 L1 ∧ ARow (x3.drewN n3) a2 z2) := ⟨H6.out.1.trans (drewN_below _ _ _), H6.out.2.1.below (drewN_below _ _ _), H6.out.2.2.1.below (drewN_below _ _ _), H6.out.2.2.2.below (drewN_below _ _ _)⟩
  clear g2 H6
  generalize x3.drewN n3 = s3 at *
  clear hCp hSt hSel hSm hl3z'

  go_wp2_with fail
  go_loopw [13, 14] (fun nv iv wr => ∃ (i : Nat), i ≤ xs.length ∧ iv = .int .i64 (i : Int) ∧ nv = .int .i64 ((selL (wants L1) false (xs.take i)).length : Int) ∧ Hid (Below s3.heap.size s3 wr)) (fun _ iv _ => xs.length - (intOf iv).toNat)
  case atStart => exact ⟨0, Nat.zero_le _, rfl, rfl, Below.refl _ _⟩
  case round =>
    obtain ⟨i, hi, rfl, rfl, hI⟩ := hrel
    have hBr : Below Wa.heap.size Wa wr := H7.out.1.trans (hI.out.mono H7.out.1.size)
    obtain ⟨c0, c1, c2, c3⟩ := hcs.out wr hBr
    by_cases hlt : i < xs.length
    · have i0 : (0 : Int) ≤ (i : Int) := Int.natCast_nonneg _
      have i1 : (i : Int) < (xs.length : Int) := Int.ofNat_lt.2 hlt
      obtain ⟨⟨b, off, rfl, d0, d1, d2⟩, hrow⟩ := (hA0.out wr hBr).1 i hlt
      have hxz := hsz.out _ (List.getElem_mem hlt)
      have n0 : i + 1 ≤ c := Nat.le_trans hlt hc
      have n1 : IntKind.i64.wrap ((i : Int) + 1) = (i : Int) + 1 := iw i (Nat.le_of_lt (Nat.lt_of_lt_of_le hlt hn))
      have n2 : (0 : Int) ≤ (i : Int) + 1 := Int.add_nonneg (Int.natCast_nonneg _) (by decide)
      have n3 : ((i : Int) + 1).toNat = i + 1 := rfl
      have n4 : (i : Int) + 1 ≤ (c : Int) := Int.ofNat_le.2 n0
      have n5 : ¬ c = i := fun e => Nat.lt_irrefl i (by rw [e] at n0; exact n0)
      have n6 : (i : Int) ≤ (i : Int) + 1 := Int.le_add_one (Int.le_refl _)
      have n7 : wrap64 ((i : Int) + 1) = (i : Int) + 1 := (iw0 i (Nat.le_of_lt (Nat.lt_of_lt_of_le hlt hn))).2.2.1
      have hmem : xs[i] ∈ xs := List.getElem_mem hlt
      have hnx : Hid (∀ bb, wants L1 xs[i].c = bb → (selL (wants L1) false (xs.take (i + 1))).length = (selL (wants L1) false (xs.take i)).length + (if bb then 1 else 0)) := fun bb hb => sel_next _ xs i hlt bb hb
      have hzl : i < zw.length := by
        rw [selA_len hZw2.out.1, sel_allLen]
        exact hlt
      have hzi := sel_at hZw2.out.1 i hlt hzl
      obtain ⟨x, hx⟩ : ∃ x, xs[i] = x := ⟨_, rfl⟩
      rw [hx] at hxz hmem hnx hzi
      have hR1 : Hid (∀ W, Below Wa.heap.size Wa W → ARow W (some ⟨b, off + i * 3, none⟩) [x]) := fun W hW => by
        have h1 := (hA0.out W hW).1.at1 i hlt
        rw [hx] at h1
        exact h1
      have hC1 : Hid (∀ W, Below Wa.heap.size Wa W → Calls Tryd.prog 8 #[.agg #[.int .i64 0, .string ⟨#[]⟩, .slice none 0 0, .slice (some ⟨b, off + i * 3, none⟩) 1 (c - i)]] W fun e w' => (∃ g cap g' cap', e = .returned (.agg #[.int .i64 0, .string ⟨#[]⟩, .slice (some ⟨g, 0, none⟩) 0 cap, .slice (some ⟨g', 0, none⟩) 1 cap']) ∧ Mkd w' W.heap.size g cap [] ∧ ∃ ys, CopyA w' W.heap.size g' cap' [x] ys) ∧ Below W.heap.size W w') := fun W hW => copyEntry_any 0 ⟨#[]⟩ [] none 0 [x] (some ⟨b, off + i * 3, none⟩) (c - i) W (by simp) (by simp) (fun y hy => by rw [mem1 hy]; exact hxz.1) (Row.nil _ _) (hR1.out W hW)
      have hS1 : Hid (∀ W B (gk ck g cap : Nat) (ys : List Atr) (wa : Option Addr) (lc : Nat) (l : List (List UInt8)), Below Wa.heap.size Wa W → CopyA W B g cap [x] ys → Row W wa l → l.length ≤ 4194304 → (∀ t ∈ l, t.length ≤ 1048576) → Calls Tryd.prog 7 #[.agg #[.int .i64 0, .string ⟨#[]⟩, .slice (some ⟨gk, 0, none⟩) 0 ck, .slice (some ⟨g, 0, none⟩) 1 cap], .slice wa l.length lc, .bool false] W fun e w' => (∃ v zs, e = .returned v ∧ MadeA w' W.heap.size v zs ∧ zs.map pl = selL (wants l) false [x]) ∧ Below W.heap.size W w') := fun W B gk ck g cap ys wa lc l hW hY hr hll hlz => by
        have hyl : ys.length = 1 := hY.len
        have hh := selectT_any false l wa lc 0 ⟨#[]⟩ (some ⟨gk, 0, none⟩) 0 ck ys (some ⟨g, 0, none⟩) cap W hll hlz hr (by rw [hyl]; decide) (pl_canonsA hY.2.2 (fun y hy => by rw [mem1 hy]; exact hxz.2)) (pl_sizes hY.2.2 (fun y hy => by rw [mem1 hy]; exact hxz.1)) hY.row (hA0.out W hW).2.1 (hA0.out W hW).2.2.1
        rw [selL_pl _ _ hY.2.2, hyl] at hh
        exact hh
      have hwt : Hid (∀ W, Below s3.heap.size s3 W → ARow W (some ⟨gw, 0, none⟩) zw ∧ ARow W a2 z2 ∧ Row W pa2 L1) := fun W hW => ⟨H7.out.2.1.below hW, H7.out.2.2.2.below hW, H7.out.2.2.1.below hW⟩
      obtain ⟨⟨yd, yc, ya, yn, yl⟩, hy⟩ : ∃ y, zw[i] = y := ⟨_, rfl⟩
      rw [hy] at hzi
      have hyp : pl ⟨yd, yc, ya, yn, yl⟩ = (x.d, [], x.l) := by simpa using hzi
      have hyz : yl.length ≤ 1048576 := by
        have e : yl = x.l := congrArg (fun t => t.2.2) hyp
        rw [e]
        exact hxz.1
      obtain ⟨hv, hhv⟩ : ∃ hv, (z2.any fun z => decide (pl z = pl ⟨yd, yc, ya, yn, yl⟩)) = hv := ⟨_, rfl⟩
      have hHas : Hid (∀ W, Below s3.heap.size s3 W → (Calls Tryd.prog 11 #[.slice a2 z2.length k2, .agg #[.string (S yd), .string (S yc), .slice ya yl.length yn]] W fun e w' => e = .returned (.bool hv) ∧ Below W.heap.size W w') ∧ W.cell? ⟨gw, i * 3, none⟩ = some (.string (S yd)) ∧ W.cell? ⟨gw, i * 3 + 1, none⟩ = some (.string (S yc)) ∧ W.cell? ⟨gw, i * 3 + 2, none⟩ = some (.slice ya yl.length yn)) := fun W hW => by
        obtain ⟨⟨b', off', e, h0, h1, h2⟩, h3⟩ := (hwt.out W hW).1 i hzl
        rw [hy] at h0 h1 h2 h3
        injection e with e
        injection e with e1 e2
        subst e1 e2
        rw [Nat.zero_add] at h0 h1 h2
        have hh := lawHas_any z2 a2 k2 ⟨yd, yc, ya, yn, yl⟩ W hz2m.out.2 (selA_sizes hz2m.out.1 (fun x hx => (hsz.out x hx).1)) hyz (hwt.out W hW).2.1 h3
        rw [hhv] at hh
        exact ⟨hh, h0, h1, h2⟩
      have hhas : Hid (wants L1 x.c = true → hv = true) := fun hq => by rw [← hhv]; exact sel_mem hz2m.out.1 hmem hq hyp
      have hwq := hw1.out x.c
      obtain ⟨N, hN⟩ : ∃ N, (selL (wants L1) false (xs.take i)).length = N := ⟨_, rfl⟩
      have hN8 : N ≤ 1048576 := by rw [← hN]; exact sel_small _ xs i hn
      obtain ⟨w1', w2', w3', w4'⟩ := iw0 N hN8
      rw [hN] at hnx
      rw [hN]
      have hlt' : Hid (i < xs.length) := hlt
      have hBr' : Hid (Below Wa.heap.size Wa wr) := hBr
      have hwq' : Hid (wants L1 x.c = (wants A x.c || wants B x.c)) := hwq
      clear hx hlt hrow d0 d1 d2 hxz c0 c1 c2 hBr n0 hmem hzi hy hyp hyz hhv hN hzl hwq
      go_upto_region 18 with fail
      clear c3
      obtain ⟨u0, hu0⟩ : ∃ W, wr.alloc (.cells #[.int .i64 0, .string ⟨#[]⟩, .slice none 0 0, .slice (some ⟨b, off + i * 3, none⟩) 1 (c - i)] 25) = W := ⟨_, rfl⟩
      rw [hu0]
      have bq : Box u0 wr.heap.size 25 #[.int .i64 0, .string ⟨#[]⟩, .slice none 0 0, .slice (some ⟨b, off + i * 3, none⟩) 1 (c - i)] := by rw [← hu0]; exact Box.new _ _ _
      have hu : Hid (Below Wa.heap.size Wa u0 ∧ Below s3.heap.size s3 u0) := by rw [← hu0]; exact ⟨hBr'.out.alloc hBr'.out.size _, hI.out.alloc hI.out.size _⟩
      have hbq : Hid (∀ W, Below u0.heap.size u0 W → W.cell? ⟨wr.heap.size, 0, none⟩ = some (.int .i64 0) ∧ W.cell? ⟨wr.heap.size, 1, none⟩ = some (.string ⟨#[]⟩) ∧ W.cell? ⟨wr.heap.size, 2, none⟩ = some (.slice none 0 0) ∧ W.cell? ⟨wr.heap.size, 3, none⟩ = some (.slice (some ⟨b, off + i * 3, none⟩) 1 (c - i))) := fun W hW => by
        have x4 := bq.below hW
        exact ⟨(x4.cell 0 (by simp)).1, (x4.cell 1 (by simp)).1, (x4.cell 2 (by simp)).1, (x4.cell 3 (by simp)).1⟩
      clear hu0 bq
      generalize wr.heap.size = q at *
      obtain ⟨c0, c1, c2, c3⟩ := hbq.out u0 (Below.refl u0.heap.size u0)
      go_upto_region 19 with (first | (go_at_call 8; refine (hC1.out u0 (hu.out.1)).mono ?_; rintro e y6 ⟨⟨gk, ck, g, cap, rfl, hM, ys, hY⟩, hb1⟩; have hbY : Below Wa.heap.size Wa y6 := (hu.out.1).trans (hb1.mono (hu.out.1).size); obtain ⟨ra, rc, tt, hrr, hoo, hbb⟩ := copy_newW y6 A aa ac hAB.out.2.1.1 (hA0.out y6 hbY).2.2.2.2.1; have hbT : Below Wa.heap.size Wa tt := hbY.trans (hbb.mono hbY.size)) | (at_builtin; refine Lib.wpList_append_run _ rfl _ _ _ _ rfl _ _ rfl rfl _ _ hrr ?_; clear hrr) | (go_at_call 7; refine (hS1.out tt _ gk ck g cap ys ra rc A hbT (hY.below hbb) (ownS_row hoo).1 (Nat.le_trans hAB.out.2.1.1 (by decide)) hAB.out.2.2.1).mono ?_; rintro e x6 ⟨⟨v, z6, rfl, hZ, hZm⟩, hb3⟩; obtain ⟨a6, k6, rfl, hZr, _⟩ := hZ.row))
      have hX6 : Hid (Below Wa.heap.size Wa x6 ∧ Below u0.heap.size u0 x6) := ⟨hbT.trans (hb3.mono hbT.size), (Below.refl u0.heap.size u0).trans ((hb1.trans ((hbb.mono hb1.size).trans (hb3.mono (Nat.le_trans hb1.size hbb.size)))).mono (Below.refl u0.heap.size u0).size)⟩
      have hZ6 : Hid (True ∧ z6.map pl = selL (wants A) false [x]) := ⟨trivial, hZm⟩
      clear c0 c1 c2 c3 hM hY hb1 hbY hoo hbb hbT hZ hZr hZm hb3
      obtain ⟨c0, c1, c2, c3⟩ := hbq.out x6 (hX6.out.2)
      go_upto_region 20 with (first | (go_at_call 8; refine (hC1.out x6 (hX6.out.1)).mono ?_; rintro e y7 ⟨⟨gk, ck, g, cap, rfl, hM, ys, hY⟩, hb1⟩; have hbY : Below Wa.heap.size Wa y7 := (hX6.out.1).trans (hb1.mono (hX6.out.1).size); obtain ⟨ra, rc, tt, hrr, hoo, hbb⟩ := copy_newW y7 B ba bc hAB.out.2.1.2 (hA0.out y7 hbY).2.2.2.2.2; have hbT : Below Wa.heap.size Wa tt := hbY.trans (hbb.mono hbY.size)) | (at_builtin; refine Lib.wpList_append_run _ rfl _ _ _ _ rfl _ _ rfl rfl _ _ hrr ?_; clear hrr) | (go_at_call 7; refine (hS1.out tt _ gk ck g cap ys ra rc B hbT (hY.below hbb) (ownS_row hoo).1 (Nat.le_trans hAB.out.2.1.2 (by decide)) hAB.out.2.2.2).mono ?_; rintro e x7 ⟨⟨v, z7, rfl, hZ, hZm⟩, hb3⟩; obtain ⟨a7, k7, rfl, hZr, _⟩ := hZ.row))
      have hX7 : Hid (Below Wa.heap.size Wa x7 ∧ Below u0.heap.size u0 x7) := ⟨hbT.trans (hb3.mono hbT.size), (hX6.out.2).trans ((hb1.trans ((hbb.mono hb1.size).trans (hb3.mono (Nat.le_trans hb1.size hbb.size)))).mono (hX6.out.2).size)⟩
      have hZ7 : Hid (True ∧ z7.map pl = selL (wants B) false [x]) := ⟨trivial, hZm⟩
      clear c0 c1 c2 c3 hM hY hb1 hbY hoo hbb hbT hZ hZr hZm hb3
      obtain ⟨c0, c1, c2, c3⟩ := hbq.out x7 (hX7.out.2)
      go_upto_region 21 with (first | (go_at_call 8; refine (hC1.out x7 (hX7.out.1)).mono ?_; rintro e y8 ⟨⟨gk, ck, g, cap, rfl, hM, ys, hY⟩, hb1⟩; have hbY : Below Wa.heap.size Wa y8 := (hX7.out.1).trans (hb1.mono (hX7.out.1).size); have hs8 : Below s3.heap.size s3 y8 := hu.out.2.trans (((hX7.out.2).trans (hb1.mono (hX7.out.2).size)).mono hu.out.2.size)) | (go_at_call 7; refine (hS1.out y8 _ gk ck g cap ys pa2 pc2 L1 hbY hY (hwt.out y8 hs8).2.2 hl1z'.out.1 hl1z'.out.2).mono ?_; rintro e x8 ⟨⟨v, z8, rfl, hZ, hZm⟩, hb3⟩; obtain ⟨a8, k8, rfl, hZr, _⟩ := hZ.row))
      have hX8 : Hid (Below Wa.heap.size Wa x8 ∧ Below u0.heap.size u0 x8) := ⟨hbY.trans (hb3.mono hbY.size), (hX7.out.2).trans ((hb1.trans (hb3.mono hb1.size)).mono (hX7.out.2).size)⟩
      have hZ8 : Hid (True ∧ z8.map pl = selL (wants L1) false [x]) := ⟨trivial, hZm⟩
      clear c0 c1 c2 c3 hM hY hb1 hbY hs8 hZ hZr hZm hb3
      have hb8 : Below s3.heap.size s3 x8 := hu.out.2.trans (hX8.out.2.mono hu.out.2.size)
      obtain ⟨hHs, hd0, hd1, hd2⟩ := hHas.out x8 hb8
      have hHs' : Hid (Calls Tryd.prog 11 #[.slice a2 z2.length k2, .agg #[.string (S yd), .string (S yc), .slice ya yl.length yn]] x8 fun e w' => e = .returned (.bool hv) ∧ Below x8.heap.size x8 w') := hHs
      have hb8' : Hid (Below s3.heap.size s3 x8) := hb8
      clear hHs hb8 hX8 hHas hwt hC1 hS1 hbq hu hR1
      cases hqa : wants A x.c with
      | true =>
        have l6 : z6.length = 1 := one_len hZ6.out.2 true hqa
        have hq1 : wants L1 x.c = true := by rw [hwq'.out, hqa]; rfl
        cases hqb : wants B x.c with
        | true =>
          have l7 : z7.length = 1 := one_len hZ7.out.2 true hqb
          have l8 : z8.length = 1 := one_len hZ8.out.2 true hq1
          have hN1 : Hid ((selL (wants L1) false (xs.take (i + 1))).length = N + 1) := hnx.out true hq1
          have hvt : hv = true := hhas.out hq1
          rw [l6, l7, l8]
          rw [hvt] at hHs'
          clear hq1 hqa hqb l6 l7 l8 hnx hhas hvt
          go_wp2_with (go_at_call 11; refine hHs'.out.mono ?_; rintro e w9 ⟨rfl, hb9⟩)
          go_roundw
          case rel => exact ⟨i + 1, hlt'.out, by simp, by rw [hN1.out]; rfl, hb8'.out.trans (hb9.mono hb8'.out.size)⟩
          case measure => exact mea hlt'.out
        | false =>
          have l7 : z7.length = 0 := one_len hZ7.out.2 false hqb
          have l8 : z8.length = 1 := one_len hZ8.out.2 true hq1
          have hN1 : Hid ((selL (wants L1) false (xs.take (i + 1))).length = N + 1) := hnx.out true hq1
          have hvt : hv = true := hhas.out hq1
          rw [l6, l7, l8]
          rw [hvt] at hHs'
          clear hq1 hqa hqb l6 l7 l8 hnx hhas hvt
          go_wp2_with (go_at_call 11; refine hHs'.out.mono ?_; rintro e w9 ⟨rfl, hb9⟩)
          go_roundw
          case rel => exact ⟨i + 1, hlt'.out, by simp, by rw [hN1.out]; rfl, hb8'.out.trans (hb9.mono hb8'.out.size)⟩
          case measure => exact mea hlt'.out
      | false =>
        have l6 : z6.length = 0 := one_len hZ6.out.2 false hqa
        cases hqb : wants B x.c with
        | true =>
          have hq1 : wants L1 x.c = true := by rw [hwq'.out, hqa, hqb]; rfl
          have l7 : z7.length = 1 := one_len hZ7.out.2 true hqb
          have l8 : z8.length = 1 := one_len hZ8.out.2 true hq1
          have hN1 : Hid ((selL (wants L1) false (xs.take (i + 1))).length = N + 1) := hnx.out true hq1
          have hvt : hv = true := hhas.out hq1
          rw [l6, l7, l8]
          rw [hvt] at hHs'
          clear hq1 hqa hqb l6 l7 l8 hnx hhas hvt
          go_wp2_with (go_at_call 11; refine hHs'.out.mono ?_; rintro e w9 ⟨rfl, hb9⟩)
          go_roundw
          case rel => exact ⟨i + 1, hlt'.out, by simp, by rw [hN1.out]; rfl, hb8'.out.trans (hb9.mono hb8'.out.size)⟩
          case measure => exact mea hlt'.out
        | false =>
          have hq1 : wants L1 x.c = false := by rw [hwq'.out, hqa, hqb]; rfl
          have l7 : z7.length = 0 := one_len hZ7.out.2 false hqb
          have l8 : z8.length = 0 := one_len hZ8.out.2 false hq1
          have hN1 : Hid ((selL (wants L1) false (xs.take (i + 1))).length = N) := hnx.out false hq1
          rw [l6, l7, l8]
          clear hq1 hqa hqb l6 l7 l8 hnx hhas
          go_wp2_with (go_at_call 11; refine hHs'.out.mono ?_; rintro e w9 ⟨rfl, hb9⟩)
          go_roundw
          case rel => exact ⟨i + 1, hlt'.out, by simp, by rw [hN1.out], hb8'.out.trans (hb9.mono hb8'.out.size)⟩
          case measure => exact mea hlt'.out
    · have hie : i = xs.length := by omega
      subst hie
      have k1 : ¬ (xs.length : Int) < (xs.length : Int) := Int.lt_irrefl _
      rw [List.take_length, ← selA_len hz2m.out.1]
      go_wp2_with fail
      go_ret
      exact ⟨by simp, (hA0.out wr hBr).2.2.2.1⟩
end Go.Proofs.YtdeeegocjgikoaaDoor
