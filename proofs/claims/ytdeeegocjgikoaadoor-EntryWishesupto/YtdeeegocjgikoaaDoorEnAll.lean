import Derived.Test.YtdeeegocjgikoaaDoorEnStrip
import Derived.Test.YtdeeegocjgikoaaDoorEnSelT
import Derived.Test.YtdeeegocjgikoaaDoorEnCpE
namespace Go.Proofs.YtdeeegocjgikoaaDoor
open Go.RowKit
open TextMath (fold lo)
set_option linter.unusedVariables false

theorem pl_canonsA {xs ys : List Atr} (h : ys.map pl = xs.map pl) (hl : ∀ x ∈ xs, x.c.length ≤ 1048576) : ∀ y ∈ ys, y.c.length ≤ 1048576 := fun y hy => by
  have h1 : pl y ∈ ys.map pl := List.mem_map_of_mem hy
  rw [h] at h1
  obtain ⟨x, hx, e⟩ := List.mem_map.1 h1
  have e2 : x.c = y.c := congrArg (fun t => t.2.1) e
  rw [← e2]
  exact hl x hx
theorem selA_sizes {q : List UInt8 → Bool} {ty : Bool} {xs zs : List Atr} (h : zs.map pl = selL q ty xs) (hl : ∀ x ∈ xs, x.l.length ≤ 1048576) : ∀ z ∈ zs, z.l.length ≤ 1048576 := fun z hz => by
  have h1 : pl z ∈ zs.map pl := List.mem_map_of_mem hz
  rw [h] at h1
  unfold selL at h1
  obtain ⟨x, hx, e⟩ := List.mem_map.1 h1
  have e2 : (if ty then [] else x.l) = z.l := congrArg (fun t => t.2.2) e
  rw [← e2]
  split
  · simp
  · exact hl x (List.mem_filter.1 hx).1
theorem selA_len {q : List UInt8 → Bool} {ty : Bool} {xs zs : List Atr} (h : zs.map pl = selL q ty xs) : zs.length = (selL q ty xs).length := by
  have := congrArg List.length h
  simpa using this
theorem wants_two (c : List UInt8) : wants [starT, plusT] c = true := by
  have d1 : ¬ plusT = starT := by decide
  simp [wants, wishT, askQ, d1]
theorem wants_star (c : List UInt8) : wants [starT] c = !ownB c := by simp [wants, wishT, askQ]
theorem wants_none : wants [] = wants [starT] := by
  funext c
  simp [wants, wishT]
theorem wants_own (c : List UInt8) : wants [plusT, noneT] c = ownB c := by
  have d1 : ¬ plusT = starT := by decide
  have d2 : ¬ noneT = starT := by decide
  have d3 : ¬ noneT = plusT := by decide
  simp [wants, wishT, askQ, d1, d2, d3]
theorem wants_nothing (c : List UInt8) : wants [noneT] c = false := by
  have d2 : ¬ noneT = starT := by decide
  have d3 : ¬ noneT = plusT := by decide
  simp [wants, wishT, askQ, d2, d3]
theorem sel_two (ty : Bool) (xs : List Atr) : selL (wants [starT, plusT]) ty xs = selL (fun _ => true) ty xs := by
  have : wants [starT, plusT] = fun _ => true := funext wants_two
  rw [this]
theorem sel_nothing (ty : Bool) (xs : List Atr) : selL (wants [noneT]) ty xs = [] := by
  unfold selL
  have : xs.filter (fun x => wants [noneT] x.c) = [] := List.filter_eq_nil_iff.2 (fun x _ => by rw [wants_nothing]; simp)
  rw [this]
  rfl
theorem sel_sum (ty : Bool) (xs : List Atr) : (selL (wants [starT]) ty xs).length + (selL (wants [plusT, noneT]) ty xs).length = xs.length := by
  induction xs with
  | nil => rfl
  | cons x xs ih =>
    unfold selL at *
    simp only [List.length_map] at *
    rw [List.filter_cons, List.filter_cons, wants_star, wants_own]
    cases ownB x.c <;> simp <;> omega
theorem sel_allLen (ty : Bool) (xs : List Atr) : (selL (fun _ => true) ty xs).length = xs.length := by
  unfold selL
  have hf : xs.filter (fun _ => true) = xs := List.filter_eq_self.2 (fun _ _ => rfl)
  rw [hf, List.length_map]
/-- A list of texts that has just been laid. -/
theorem row_new (W : World) (l : List (List UInt8)) : Row (W.alloc (.cells (sv l).toArray 9)) (some ⟨W.heap.size, 0, none⟩) l := fun i hi => by
  refine ⟨_, 0, rfl, ?_⟩
  have := ((Box.new W 9 (sv l).toArray).cell i (by simp [sv]; exact hi)).1
  rw [Nat.zero_add, this]
  simp [sv]

theorem ARow.at1 {W : World} {b off : Nat} {xs : List Atr} (h : ARow W (some ⟨b, off, none⟩) xs) (i : Nat) (hi : i < xs.length) : ARow W (some ⟨b, off + i * 3, none⟩) [xs[i]] := fun j hj => by
  have e : j = 0 := by simp at hj; omega
  subst e
  obtain ⟨⟨b', off', e, h0, h1, h2⟩, hr⟩ := h i hi
  injection e with e
  injection e with e1 e2
  subst e1 e2
  exact ⟨⟨b, off + i * 3, rfl, h0, h1, h2⟩, hr⟩
theorem star_bad : (desc (S (fold starT))).2.2 = false := by decide +kernel
theorem plus_bad : (desc (S (fold plusT))).2.2 = false := by decide +kernel
theorem wants_self {c : List UInt8} (h : (desc (S (fold c))).2.2 = true) (hn : c ≠ noneT) : wants [c] c = true := by
  have e1 : c ≠ starT := fun e => by rw [e, star_bad] at h; cases h
  have e2 : c ≠ plusT := fun e => by rw [e, plus_bad] at h; cases h
  have hc : cvB c c = true := by unfold cvB; rw [cov_refl]; exact h
  simp [wants, wishT, askQ, e1, e2, hn, hc]
theorem sel_one {q : List UInt8 → Bool} {ty : Bool} {x : Atr} (h : q x.c = true) : selL q ty [x] = [(x.d, [], if ty then [] else x.l)] := by
  unfold selL
  simp [h]
theorem sel_at {ty : Bool} {xs zs : List Atr} (h : zs.map pl = selL (fun _ => true) ty xs) (i : Nat) (hi : i < xs.length) (hz : i < zs.length) : [zs[i]].map pl = [(xs[i].d, [], if ty then [] else xs[i].l)] := by
  have hf : xs.filter (fun _ => true) = xs := List.filter_eq_self.2 (fun _ _ => rfl)
  unfold selL at h
  rw [hf] at h
  have h2 : (zs.map pl)[i]? = (xs.map fun x => (x.d, ([] : List UInt8), if ty then [] else x.l))[i]? := by rw [h]
  simp only [List.getElem?_map, List.getElem?_eq_getElem hi, List.getElem?_eq_getElem hz, Option.map_some] at h2
  injection h2 with h2
  simp only [List.map_cons, List.map_nil]
  rw [h2]
theorem mem1 {α : Type} {y x : α} (h : y ∈ [x]) : y = x := by simpa using h
theorem iw (i : Nat) (h : i ≤ 1048576) : IntKind.i64.wrap ((i : Int) + 1) = (i : Int) + 1 := by
  rw [IntKind.wrap_i64]
  omega

set_option maxRecDepth 100000 in
set_option maxHeartbeats 4000000 in
theorem entryAll_walk (ty : Bool) (ln : Int) (nm : ByteArray) (kl : List (List UInt8)) (ka : Option Addr) (kc : Nat) (xs : List Atr) (a : Option Addr) (c : Nat) (w : World) (hc : xs.length ≤ c) (hkl : kl.length ≤ 1048576) (hn : xs.length ≤ 1048576) (hl : ∀ x ∈ xs, x.l.length ≤ 1048576) (hx : ∀ x ∈ xs, x.c.length ≤ 1048576) (hk : Row w ka kl) (h : ARow w a xs) (hS : SupTab w) (hT : NumT3 w) :
    Calls Tryd.prog 4 #[.agg #[.int .i64 ln, .string nm, .slice ka kl.length kc, .slice a xs.length c], .bool ty] w fun e w' => e = .returned (.bool true) ∧ Below w.heap.size w w' := by
  obtain ⟨Wa, hWa⟩ : ∃ W, w.alloc (.cells #[.int .i64 ln, .string nm, .slice ka kl.length kc, .slice a xs.length c] 25) = W := ⟨_, rfl⟩
  have pa : Box Wa w.heap.size 25 #[.int .i64 ln, .string nm, .slice ka kl.length kc, .slice a xs.length c] := by rw [← hWa]; exact Box.new _ _ _
  have hB : Below w.heap.size w Wa := by
    rw [← hWa]
    exact (Below.refl _ _).alloc (Nat.le_refl _) _
  have hCp : Hid (∀ W, Below Wa.heap.size Wa W → Calls Tryd.prog 8 #[.agg #[.int .i64 ln, .string nm, .slice ka kl.length kc, .slice a xs.length c]] W fun e w' => (∃ g cap g' cap', e = .returned (.agg #[.int .i64 ln, .string nm, .slice (some ⟨g, 0, none⟩) kl.length cap, .slice (some ⟨g', 0, none⟩) xs.length cap']) ∧ Mkd w' W.heap.size g cap kl ∧ ∃ ys, CopyA w' W.heap.size g' cap' xs ys) ∧ Below W.heap.size W w') := fun W hW => copyEntry_any ln nm kl ka kc xs a c W hkl hn hl ((hk.below hB).below hW) ((h.below hB).below hW)
  have hcs : Hid (∀ W, Below Wa.heap.size Wa W → W.cell? ⟨w.heap.size, 0, none⟩ = some (.int .i64 ln) ∧ W.cell? ⟨w.heap.size, 1, none⟩ = some (.string nm) ∧ W.cell? ⟨w.heap.size, 2, none⟩ = some (.slice ka kl.length kc) ∧ W.cell? ⟨w.heap.size, 3, none⟩ = some (.slice a xs.length c)) := fun W hW => by
    have x4 := pa.below hW
    exact ⟨(x4.cell 0 (by simp)).1, (x4.cell 1 (by simp)).1, (x4.cell 2 (by simp)).1, (x4.cell 3 (by simp)).1⟩
  have hSel : Hid (∀ W B (gk ck g cap : Nat) (ys : List Atr) (wa : Option Addr) (lc : Nat) (l : List (List UInt8)), Below Wa.heap.size Wa W → CopyA W B g cap xs ys → Row W wa l → l.length ≤ 1048576 → (∀ t ∈ l, t.length ≤ 1048576) → Calls Tryd.prog 7 #[.agg #[.int .i64 ln, .string nm, .slice (some ⟨gk, 0, none⟩) kl.length ck, .slice (some ⟨g, 0, none⟩) xs.length cap], .slice wa l.length lc, .bool ty] W fun e w' => (∃ v zs, e = .returned v ∧ MadeA w' W.heap.size v zs ∧ zs.map pl = selL (wants l) ty xs) ∧ Below W.heap.size W w') := fun W B gk ck g cap ys wa lc l hW hY hr hll hlz => by
    have hz : Below w.heap.size w W := hB.trans (hW.mono hB.size)
    have hh := selectT_any ty l wa lc ln nm (some ⟨gk, 0, none⟩) kl.length ck ys (some ⟨g, 0, none⟩) cap W (Nat.le_trans hll (by decide)) hlz hr (by rw [hY.len]; exact hn) (pl_canonsA hY.2.2 hx) (pl_sizes hY.2.2 hl) hY.row (hS.below hz) (hT.below hz)
    rw [selL_pl _ _ hY.2.2, hY.len] at hh
    exact hh
  have hSt : Hid (∀ W, Below Wa.heap.size Wa W → Calls Tryd.prog 9 #[.slice a xs.length c, .bool ty] W fun e w' => (∃ g cap zs, e = .returned (.slice (some ⟨g, 0, none⟩) xs.length cap) ∧ ARow w' (some ⟨g, 0, none⟩) zs ∧ zs.map pl = selL (fun _ => true) ty xs ∧ xs.length ≤ cap) ∧ Below W.heap.size W w') := fun W hW => stripped_any ty xs a c W hn hl ((h.below hB).below hW)
  have hSm : Hid (∀ W (zs zt : List Atr) (p q : Option Addr) (pc qc : Nat), zs.length ≤ 1048576 → (∀ z ∈ zs, z.l.length ≤ 1048576) → ARow W p zs → ARow W q zt → zs.map pl = zt.map pl → Calls Tryd.prog 10 #[.slice p zs.length pc, .slice q zs.length qc] W fun e w' => e = .returned (.bool true) ∧ ∃ n, w' = W.drewN n) := fun W zs zt p q pc qc h1 h2 h3 h4 h5 => sameAttrs_any zs zt p q pc qc W h1 h2 h3 h4 h5
  have hA0 : Hid (∀ W, Below Wa.heap.size Wa W → ARow W a xs ∧ SupTab W ∧ NumT3 W ∧ Below w.heap.size w W) := fun W hW => ⟨(h.below hB).below hW, (hS.below hB).below hW, (hT.below hB).below hW, hB.trans (hW.mono hB.size)⟩
  have hsz : Hid (∀ x ∈ xs, x.l.length ≤ 1048576 ∧ x.c.length ≤ 1048576) := fun x hxm => ⟨hl x hxm, hx x hxm⟩
  obtain ⟨c0, c1, c2, c3⟩ := hcs.out Wa (Below.refl _ _)
  clear hkl hl hx hk h hS hT pa hB
  go_enter Tryd.func4, Tryd.ntmps4
  clear c0 c1 c2 c3
  obtain ⟨c0, c1, c2, c3⟩ := hcs.out Wa (Below.refl Wa.heap.size Wa)
  go_upto_region 2 with (first | (go_at_call 8; refine (hCp.out Wa (Below.refl Wa.heap.size Wa)).mono ?_; rintro e y1 ⟨⟨gk, ck, g, cap, rfl, hM, ys, hY⟩, hb1⟩; have hbY : Below Wa.heap.size Wa (y1.alloc (.cells #[.string ⟨#[42]⟩, .string ⟨#[43]⟩] 9)) := ((Below.refl Wa.heap.size Wa).trans (hb1.mono (Below.refl Wa.heap.size Wa).size)).alloc ((Below.refl Wa.heap.size Wa).trans (hb1.mono (Below.refl Wa.heap.size Wa).size)).size _; have hr2 : Row (y1.alloc (.cells #[.string ⟨#[42]⟩, .string ⟨#[43]⟩] 9)) (some ⟨y1.heap.size, 0, none⟩) [starT, plusT] := row_new y1 [starT, plusT]; have hY2 := hY.below (W' := (y1.alloc (.cells #[.string ⟨#[42]⟩, .string ⟨#[43]⟩] 9))) ((Below.refl _ _).alloc (Nat.le_refl _) _); have hyA : Below Wa.heap.size Wa (y1.alloc (.cells #[.string ⟨#[42]⟩, .string ⟨#[43]⟩] 9)) := hb1.alloc hb1.size _) | (go_at_call 7; refine (hSel.out _ _ gk ck g cap ys (some ⟨y1.heap.size, 0, none⟩) 2 [starT, plusT] hbY hY2 hr2 (by decide) (by decide)).mono ?_; rintro e x1 ⟨⟨v, z1, rfl, hZ, hZm⟩, hb3⟩; obtain ⟨a1, k1, rfl, hZr, _⟩ := hZ.row))
  have hX1 : Hid (Below Wa.heap.size Wa x1 ∧ Below Wa.heap.size Wa x1) := ⟨hbY.trans (hb3.mono hbY.size), hyA.trans (hb3.mono hyA.size)⟩
  have hZ1 : Hid (ARow x1 a1 z1 ∧ z1.map pl = selL (wants [starT, plusT]) ty xs) := ⟨hZr, hZm⟩
  clear c0 c1 c2 c3 hM hY hb1 hbY hY2 hr2 hyA hZ hZr hZm hb3
  clear hWa
  obtain ⟨c0, c1, c2, c3⟩ := hcs.out x1 hX1.out.1
  go_upto_region 3 with (go_at_call 9; refine (hSt.out x1 hX1.out.1).mono ?_; rintro e s1 ⟨⟨gw, capw, zw, rfl, hWr, hWm, hWc⟩, hb1⟩)
  have hXs : Hid (Below Wa.heap.size Wa s1) := hX1.out.1.trans (hb1.mono hX1.out.1.size)
  have hZw : Hid (ARow s1 (some ⟨gw, 0, none⟩) zw ∧ zw.map pl = selL (fun _ => true) ty xs ∧ xs.length ≤ capw) := ⟨hWr, hWm, hWc⟩
  have hl1 : z1.length = xs.length := by rw [selA_len hZ1.out.2, sel_two, sel_allLen]
  have g1 : Hid (Calls Tryd.prog 10 #[.slice a1 z1.length k1, .slice (some ⟨gw, 0, none⟩) z1.length capw] s1 fun e w' => e = .returned (.bool true) ∧ ∃ n, w' = s1.drewN n) := hSm.out s1 z1 zw a1 _ k1 capw (by omega) (selA_sizes hZ1.out.2 (fun x hx => (hsz.out x hx).1)) (hZ1.out.1.below hb1) hWr (by rw [hZ1.out.2, hWm, sel_two])
  rw [hl1] at g1 ⊢
  clear c0 c1 c2 c3 hWr hWm hWc hb1 hl1
  go_upto_region 5 with (go_at_call 10; refine g1.out.mono ?_; rintro e s2 ⟨rfl, n1, rfl⟩)
  have hS2 : Hid (Below Wa.heap.size Wa (s1.drewN n1) ∧ ARow (s1.drewN n1) (some ⟨gw, 0, none⟩) zw) := ⟨hXs.out.trans (drewN_below _ _ _), hZw.out.1.below (drewN_below _ _ _)⟩
  have hZw2 : Hid (zw.map pl = selL (fun _ => true) ty xs ∧ xs.length ≤ capw) := hZw.out.2
  clear g1 hZ1 hX1 hXs hZw
  generalize s1.drewN n1 = s2 at *
  obtain ⟨c0, c1, c2, c3⟩ := hcs.out s2 (hS2.out.1)
  go_upto_region 6 with (first | (go_at_call 8; refine (hCp.out s2 (hS2.out.1)).mono ?_; rintro e y2 ⟨⟨gk, ck, g, cap, rfl, hM, ys, hY⟩, hb1⟩; have hbY : Below Wa.heap.size Wa y2 := (hS2.out.1).trans (hb1.mono (hS2.out.1).size); have hY2 := hY; have hyA : Below s2.heap.size s2 y2 := hb1; have hr2 : Row y2 none [] := Row.nil _ _) | (go_at_call 7; refine (hSel.out _ _ gk ck g cap ys none 0 [] hbY hY2 hr2 (by decide) (by decide)).mono ?_; rintro e x2 ⟨⟨v, z2, rfl, hZ, hZm⟩, hb3⟩; obtain ⟨a2, k2, rfl, hZr, _⟩ := hZ.row))
  have hX2 : Hid (Below Wa.heap.size Wa x2 ∧ Below s2.heap.size s2 x2) := ⟨hbY.trans (hb3.mono hbY.size), hyA.trans (hb3.mono hyA.size)⟩
  have hZ2 : Hid (ARow x2 a2 z2 ∧ z2.map pl = selL (wants []) ty xs) := ⟨hZr, hZm⟩
  clear c0 c1 c2 c3 hM hY hb1 hbY hY2 hr2 hyA hZ hZr hZm hb3
  obtain ⟨c0, c1, c2, c3⟩ := hcs.out x2 (hX2.out.1)
  go_upto_region 7 with (first | (go_at_call 8; refine (hCp.out x2 (hX2.out.1)).mono ?_; rintro e y3 ⟨⟨gk, ck, g, cap, rfl, hM, ys, hY⟩, hb1⟩; have hbY : Below Wa.heap.size Wa (y3.alloc (.cells #[.string ⟨#[42]⟩] 9)) := ((hX2.out.1).trans (hb1.mono (hX2.out.1).size)).alloc ((hX2.out.1).trans (hb1.mono (hX2.out.1).size)).size _; have hr2 : Row (y3.alloc (.cells #[.string ⟨#[42]⟩] 9)) (some ⟨y3.heap.size, 0, none⟩) [starT] := row_new y3 [starT]; have hY2 := hY.below (W' := (y3.alloc (.cells #[.string ⟨#[42]⟩] 9))) ((Below.refl _ _).alloc (Nat.le_refl _) _); have hyA : Below x2.heap.size x2 (y3.alloc (.cells #[.string ⟨#[42]⟩] 9)) := hb1.alloc hb1.size _) | (go_at_call 7; refine (hSel.out _ _ gk ck g cap ys (some ⟨y3.heap.size, 0, none⟩) 1 [starT] hbY hY2 hr2 (by decide) (by decide)).mono ?_; rintro e x3 ⟨⟨v, z3, rfl, hZ, hZm⟩, hb3⟩; obtain ⟨a3, k3, rfl, hZr, _⟩ := hZ.row))
  have hX3 : Hid (Below Wa.heap.size Wa x3 ∧ Below x2.heap.size x2 x3) := ⟨hbY.trans (hb3.mono hbY.size), hyA.trans (hb3.mono hyA.size)⟩
  have hZ3 : Hid (ARow x3 a3 z3 ∧ z3.map pl = selL (wants [starT]) ty xs) := ⟨hZr, hZm⟩
  clear c0 c1 c2 c3 hM hY hb1 hbY hY2 hr2 hyA hZ hZr hZm hb3
  obtain ⟨c0, c1, c2, c3⟩ := hcs.out x3 (hX3.out.1)
  go_upto_region 8 with (first | (go_at_call 8; refine (hCp.out x3 (hX3.out.1)).mono ?_; rintro e y4 ⟨⟨gk, ck, g, cap, rfl, hM, ys, hY⟩, hb1⟩; have hbY : Below Wa.heap.size Wa (y4.alloc (.cells #[.string ⟨#[43]⟩, .string ⟨#[49, 46, 49]⟩] 9)) := ((hX3.out.1).trans (hb1.mono (hX3.out.1).size)).alloc ((hX3.out.1).trans (hb1.mono (hX3.out.1).size)).size _; have hr2 : Row (y4.alloc (.cells #[.string ⟨#[43]⟩, .string ⟨#[49, 46, 49]⟩] 9)) (some ⟨y4.heap.size, 0, none⟩) [plusT, noneT] := row_new y4 [plusT, noneT]; have hY2 := hY.below (W' := (y4.alloc (.cells #[.string ⟨#[43]⟩, .string ⟨#[49, 46, 49]⟩] 9))) ((Below.refl _ _).alloc (Nat.le_refl _) _); have hyA : Below x3.heap.size x3 (y4.alloc (.cells #[.string ⟨#[43]⟩, .string ⟨#[49, 46, 49]⟩] 9)) := hb1.alloc hb1.size _) | (go_at_call 7; refine (hSel.out _ _ gk ck g cap ys (some ⟨y4.heap.size, 0, none⟩) 2 [plusT, noneT] hbY hY2 hr2 (by decide) (by decide)).mono ?_; rintro e x4 ⟨⟨v, z4, rfl, hZ, hZm⟩, hb3⟩; obtain ⟨a4, k4, rfl, hZr, _⟩ := hZ.row))
  have hX4 : Hid (Below Wa.heap.size Wa x4 ∧ Below x3.heap.size x3 x4) := ⟨hbY.trans (hb3.mono hbY.size), hyA.trans (hb3.mono hyA.size)⟩
  have hZ4 : Hid (ARow x4 a4 z4 ∧ z4.map pl = selL (wants [plusT, noneT]) ty xs) := ⟨hZr, hZm⟩
  clear c0 c1 c2 c3 hM hY hb1 hbY hY2 hr2 hyA hZ hZr hZm hb3
  obtain ⟨c0, c1, c2, c3⟩ := hcs.out x4 (hX4.out.1)
  go_upto_region 9 with (first | (go_at_call 8; refine (hCp.out x4 (hX4.out.1)).mono ?_; rintro e y5 ⟨⟨gk, ck, g, cap, rfl, hM, ys, hY⟩, hb1⟩; have hbY : Below Wa.heap.size Wa (y5.alloc (.cells #[.string ⟨#[49, 46, 49]⟩] 9)) := ((hX4.out.1).trans (hb1.mono (hX4.out.1).size)).alloc ((hX4.out.1).trans (hb1.mono (hX4.out.1).size)).size _; have hr2 : Row (y5.alloc (.cells #[.string ⟨#[49, 46, 49]⟩] 9)) (some ⟨y5.heap.size, 0, none⟩) [noneT] := row_new y5 [noneT]; have hY2 := hY.below (W' := (y5.alloc (.cells #[.string ⟨#[49, 46, 49]⟩] 9))) ((Below.refl _ _).alloc (Nat.le_refl _) _); have hyA : Below x4.heap.size x4 (y5.alloc (.cells #[.string ⟨#[49, 46, 49]⟩] 9)) := hb1.alloc hb1.size _) | (go_at_call 7; refine (hSel.out _ _ gk ck g cap ys (some ⟨y5.heap.size, 0, none⟩) 1 [noneT] hbY hY2 hr2 (by decide) (by decide)).mono ?_; rintro e x5 ⟨⟨v, z5, rfl, hZ, hZm⟩, hb3⟩; obtain ⟨a5, k5, rfl, hZr, _⟩ := hZ.row))
  have hX5 : Hid (Below Wa.heap.size Wa x5 ∧ Below x4.heap.size x4 x5) := ⟨hbY.trans (hb3.mono hbY.size), hyA.trans (hb3.mono hyA.size)⟩
  have hZ5 : Hid (ARow x5 a5 z5 ∧ z5.map pl = selL (wants [noneT]) ty xs) := ⟨hZr, hZm⟩
  clear c0 c1 c2 c3 hM hY hb1 hbY hY2 hr2 hyA hZ hZr hZm hb3
  have h23 : z3.length = z2.length := by rw [selA_len hZ3.out.2, selA_len hZ2.out.2, wants_none]
  have b24 : Below x2.heap.size x2 x5 := hX3.out.2.trans ((hX4.out.2.trans (hX5.out.2.mono hX4.out.2.size)).mono hX3.out.2.size)
  have b35 : Below x3.heap.size x3 x5 := hX4.out.2.trans (hX5.out.2.mono hX4.out.2.size)
  have hzl2 : z2.length ≤ 1048576 := by rw [selA_len hZ2.out.2]; exact Nat.le_trans (selL_le _ _ _) hn
  have g2 : Hid (Calls Tryd.prog 10 #[.slice a2 z2.length k2, .slice a3 z2.length k3] x5 fun e w' => e = .returned (.bool true) ∧ ∃ n, w' = x5.drewN n) := hSm.out x5 z2 z3 a2 a3 k2 k3 hzl2 (selA_sizes hZ2.out.2 (fun x hx => (hsz.out x hx).1)) (hZ2.out.1.below b24) (hZ3.out.1.below b35) (by rw [hZ2.out.2, hZ3.out.2, wants_none])
  have hsum : z2.length + z4.length = xs.length := by rw [← h23, selA_len hZ3.out.2, selA_len hZ4.out.2]; exact sel_sum ty xs
  have hz5 : z5.length = 0 := by rw [selA_len hZ5.out.2, sel_nothing]; rfl
  have ha1 : wrap64 ((z2.length : Int) + (z4.length : Int)) = (xs.length : Int) := by rw [IntWalk.wrap64_in] <;> omega
  rw [h23, hz5]
  have H5 : Hid (Below Wa.heap.size Wa x5 ∧ ARow x5 (some ⟨gw, 0, none⟩) zw) := ⟨hX5.out.1, hS2.out.2.below ((hX2.out.2.trans (b24.mono hX2.out.2.size)))⟩
  clear hX2 hX3 hX4 hX5 hZ2 hZ3 hZ4 hZ5 h23 b24 b35 hzl2 hsum hz5 hS2
  go_upto_region 11 with (go_at_call 10; refine g2.out.mono ?_; rintro e s3 ⟨rfl, n3, rfl⟩)
  have H6 : Hid (Below Wa.heap.size Wa (x5.drewN n3) ∧ ARow (x5.drewN n3) (some ⟨gw, 0, none⟩) zw) := ⟨H5.out.1.trans (drewN_below _ _ _), H5.out.2.below (drewN_below _ _ _)⟩
  clear g2 H5 ha1
  generalize x5.drewN n3 = s3 at *
  clear hCp hSt
  go_wp2_with fail
  go_loopw [11] (fun iv wr => ∃ (i : Nat), i ≤ xs.length ∧ iv = .int .i64 (i : Int) ∧ Hid (Below s3.heap.size s3 wr)) (fun iv _ => xs.length - (intOf iv).toNat)
  case atStart => exact ⟨0, Nat.zero_le _, rfl, Below.refl _ _⟩
  case round =>
    obtain ⟨i, hi, rfl, hI⟩ := hrel
    have hBr : Below Wa.heap.size Wa wr := H6.out.1.trans (hI.out.mono H6.out.1.size)
    obtain ⟨c0, c1, c2, c3⟩ := hcs.out wr hBr
    by_cases hlt : i < xs.length
    · have i0 : (0 : Int) ≤ (i : Int) := Int.natCast_nonneg _
      have i1 : (i : Int) < (xs.length : Int) := Int.ofNat_lt.2 hlt
      obtain ⟨⟨b, off, rfl, d0, d1, d2⟩, hrow⟩ := (hA0.out wr hBr).1 i hlt
      have hxz := hsz.out _ (List.getElem_mem hlt)
      have n0 : i + 1 ≤ c := Nat.le_trans hlt hc
      have n1 : IntKind.i64.wrap ((i : Int) + 1) = (i : Int) + 1 := iw i (Nat.le_of_lt (Nat.lt_of_lt_of_le hlt hn))
      have n2 : (0 : Int) ≤ (i : Int) + 1 := Int.add_nonneg (Int.natCast_nonneg _) (by decide)
      have n3 : ((i : Int) + 1).toNat = i + 1 := rfl
      have n4 : (i : Int) + 1 ≤ (c : Int) := Int.ofNat_le.2 n0
      have n5 : ¬ c = i := fun e => Nat.lt_irrefl i (by rw [e] at n0; exact n0)
      have n6 : (i : Int) ≤ (i : Int) + 1 := Int.le_add_one (Int.le_refl _)
      obtain ⟨x, hx⟩ : ∃ x, xs[i] = x := ⟨_, rfl⟩
      rw [hx] at d0 d1 d2 hxz
      have hR1 : Hid (∀ W, Below Wa.heap.size Wa W → ARow W (some ⟨b, off + i * 3, none⟩) [x] ∧ W.cell? ⟨w.heap.size, 3, none⟩ = some (.slice (some ⟨b, off, none⟩) xs.length c) ∧ W.cell? ⟨b, off + i * 3 + 1, none⟩ = some (.string (S x.c))) := fun W hW => by
        have h1 := (hA0.out W hW).1.at1 i hlt
        rw [hx] at h1
        obtain ⟨⟨b', off', e, _, h3, _⟩, _⟩ := h1 0 (by simp)
        injection e with e
        injection e with e1 e2
        subst e1 e2
        exact ⟨h1, (hcs.out W hW).2.2.2, h3⟩
      have hCA : Hid (∀ W, Below Wa.heap.size Wa W → Calls Tryd.prog 12 #[.slice (some ⟨b, off + i * 3, none⟩) 1 (c - i)] W fun e w' => (∃ g cap, e = .returned (.slice (some ⟨g, 0, none⟩) 1 cap) ∧ ∃ ys, CopyA w' W.heap.size g cap [x] ys) ∧ Below W.heap.size W w') := fun W hW => copyAttrs_any [x] (some ⟨b, off + i * 3, none⟩) (c - i) W (by simp) (fun y hy => by rw [mem1 hy]; exact hxz.1) (hR1.out W hW).1
      have hS1 : Hid (∀ W B (g cap gr : Nat) (ys : List Atr), Below Wa.heap.size Wa W → CopyA W B g cap [x] ys → Row W (some ⟨gr, 0, none⟩) [x.c] → Calls Tryd.prog 7 #[.agg #[.int .i64 0, .string ⟨#[]⟩, .slice none 0 0, .slice (some ⟨g, 0, none⟩) 1 cap], .slice (some ⟨gr, 0, none⟩) 1 1, .bool ty] W fun e w' => (∃ v zs, e = .returned v ∧ MadeA w' W.heap.size v zs ∧ zs.map pl = selL (wants [x.c]) ty [x]) ∧ Below W.heap.size W w') := fun W B g cap gr ys hW hY hr => by
        have hyl : ys.length = 1 := hY.len
        have hh := selectT_any ty [x.c] (some ⟨gr, 0, none⟩) 1 0 ⟨#[]⟩ none 0 0 ys (some ⟨g, 0, none⟩) cap W (by simp) (fun t ht => by rw [mem1 ht]; exact hxz.2) hr (by omega) (pl_canonsA hY.2.2 (fun y hy => by rw [mem1 hy]; exact hxz.2)) (pl_sizes hY.2.2 (fun y hy => by rw [mem1 hy]; exact hxz.1)) hY.row (hA0.out W hW).2.1 (hA0.out W hW).2.2.1
        rw [selL_pl _ _ hY.2.2, hyl] at hh
        exact hh
      have hcz : (S x.c).size ≤ 2097000 := by
        have e : (S x.c).size = x.c.length := by rw [← size_l, S_l]
        rw [e]
        exact Nat.le_trans hxz.2 (by decide)
      have hCn : Hid (∀ W, Calls Tryd.prog 13 #[.string (S x.c)] W fun e w' => CnlIs (S (fold x.c)) e ∧ Below W.heap.size W w') := fun W => canonicalT_any (S x.c) (S (fold x.c)) (by rw [S_l]) W hcz
      have hzi : Hid (∀ hz : i < zw.length, [zw[i]].map pl = [(x.d, [], if ty then [] else x.l)]) := fun hz => by
        have h1 := sel_at hZw2.out.1 i hlt hz
        rw [hx] at h1
        exact h1
      have hzl : Hid (i < zw.length) := by
        unfold Hid
        rw [selA_len hZw2.out.1, sel_allLen]
        exact hlt
      have m1 : i + 1 ≤ capw := Nat.le_trans hlt hZw2.out.2
      have m4 : (i : Int) + 1 ≤ (capw : Int) := Int.ofNat_le.2 m1
      have m5 : ¬ capw = i := fun e => Nat.lt_irrefl i (by rw [e] at m1; exact m1)
      have hxz' : Hid (x.l.length ≤ 1048576 ∧ x.c.length ≤ 1048576) := hxz
      have hBr' : Hid (Below Wa.heap.size Wa wr) := hBr
      have hlt' : Hid (i < xs.length) := hlt
      clear hx hlt hrow d0 d2 hxz hcz c0 c1 c2 hsz hSel hBr n0 m1
      generalize hX : S x.c = X at *
      go_upto_region 14 with fail
      go_cut [12] (fun t12 wx => ∃ (a6 : Option Addr) (k6 : Nat) (z6 : List Atr), t12 = .slice a6 z6.length k6 ∧ Hid (ARow wx a6 z6 ∧ z6.map pl = selL (wants [x.c]) ty [x] ∧ Below s3.heap.size s3 wx))
      case first =>
        rename_i J0 K0 hJ0 hK0
        have hSW : wr.drew.cell? ⟨w.heap.size, 3, none⟩ = some (.slice (some ⟨b, off, none⟩) xs.length c) ∧ wr.drew.cell? ⟨b, off + i * 3 + 1, none⟩ = some (.string X) := ⟨c3, d1⟩
        have hB0 : Below Wa.heap.size Wa wr.drew := hBr'.out.drew
        have hI0 : Below s3.heap.size s3 wr.drew := hI.out.drew
        refine wp_region_noPanic ?_
        refine wp_region_held_drew (S := fun W => W.cell? ⟨w.heap.size, 3, none⟩ = some (.slice (some ⟨b, off, none⟩) xs.length c) ∧ W.cell? ⟨b, off + i * 3 + 1, none⟩ = some (.string X)) (by kernel_rfl) hSW (fun _ => ?_)
        generalize wr.drew = W0 at hSW hB0 hI0 ⊢
        refine wpAnyH_take (i := 0) (v := ?va1) (by simp only [List.getElem?_toArray, List.getElem?_cons_zero]; exact rfl) (by kernel_rfl) (by kernel_rfl) (by kernel_rfl) (fun _ _ _ h => h) (Or.inl ⟨by rfl, ?ya1⟩) hSW ?ra1
        case ya1 =>
          intro w' hS
          obtain ⟨s0, s1⟩ := hS
          go_simp
          try with_reducible rfl
        case ra1 =>
        simp only [Act.put, List.setIfInBounds_toArray, List.set_cons_zero, List.set_cons_succ]
        refine wpAnyH_take (i := 1) (v := ?va2) (by simp only [List.getElem?_toArray, List.getElem?_cons_zero, List.getElem?_cons_succ]; exact rfl) (by kernel_rfl) (by kernel_rfl) (by kernel_rfl) (fun _ _ _ h => h) (Or.inl ⟨by rfl, ?ya2⟩) hSW ?ra2
        case ya2 =>
          intro w' hS
          obtain ⟨s0, s1⟩ := hS
          go_simp
          try with_reducible rfl
        case ra2 =>
        simp only [Act.put, List.setIfInBounds_toArray, List.set_cons_zero, List.set_cons_succ]
        refine wpAnyH_take (i := 2) (v := ?va3) (by simp only [List.getElem?_toArray, List.getElem?_cons_zero, List.getElem?_cons_succ]; exact rfl) (by kernel_rfl) (by kernel_rfl) (by kernel_rfl) (fun _ _ _ h => h) (Or.inl ⟨by rfl, ?ya3⟩) hSW ?ra3
        case ya3 =>
          intro w' hS
          obtain ⟨s0, s1⟩ := hS
          go_simp
          try with_reducible rfl
        case ra3 =>
        simp only [Act.put, List.setIfInBounds_toArray, List.set_cons_zero, List.set_cons_succ]
        refine wpAnyH_take (i := 3) (v := ?va4) (by simp only [List.getElem?_toArray, List.getElem?_cons_zero, List.getElem?_cons_succ]; exact rfl) (by kernel_rfl) (by kernel_rfl) (by kernel_rfl) (fun _ _ _ h => h) (Or.inl ⟨by rfl, ?ya4⟩) hSW ?ra4
        case ya4 =>
          intro w' hS
          obtain ⟨s0, s1⟩ := hS
          go_simp
          try with_reducible rfl
        case ra4 =>
        simp only [Act.put, List.setIfInBounds_toArray, List.set_cons_zero, List.set_cons_succ]
        refine wpAnyH_take (i := 4) (v := ?va5) (by simp only [List.getElem?_toArray, List.getElem?_cons_zero, List.getElem?_cons_succ]; exact rfl) (by kernel_rfl) (by kernel_rfl) (by kernel_rfl) (fun _ _ _ h => h) (Or.inl ⟨by rfl, ?ya5⟩) hSW ?ra5
        case ya5 =>
          intro w' hS
          obtain ⟨s0, s1⟩ := hS
          go_simp
          try with_reducible rfl
        case ra5 =>
        simp only [Act.put, List.setIfInBounds_toArray, List.set_cons_zero, List.set_cons_succ]
        refine wpAnyH_take (i := 5) (v := ?va6) (by simp only [List.getElem?_toArray, List.getElem?_cons_zero, List.getElem?_cons_succ]; exact rfl) (by kernel_rfl) (by kernel_rfl) (by kernel_rfl) (fun _ _ _ h => h) (Or.inl ⟨by rfl, ?ya6⟩) hSW ?ra6
        case ya6 =>
          intro w' hS
          obtain ⟨s0, s1⟩ := hS
          go_simp
          try with_reducible rfl
        case ra6 =>
        simp only [Act.put, List.setIfInBounds_toArray, List.set_cons_zero, List.set_cons_succ]
        refine wpAnyH_take (i := 8) (v := ?va7) (by simp only [List.getElem?_toArray, List.getElem?_cons_zero, List.getElem?_cons_succ]; exact rfl) (by kernel_rfl) (by kernel_rfl) (by kernel_rfl) (fun _ _ _ h => h) (Or.inl ⟨by rfl, ?ya7⟩) hSW ?ra7
        case ya7 =>
          intro w' hS
          obtain ⟨s0, s1⟩ := hS
          go_simp
          try with_reducible rfl
        case ra7 =>
        simp only [Act.put, List.setIfInBounds_toArray, List.set_cons_zero, List.set_cons_succ]
        refine wpAnyH_take (i := 9) (v := ?va8) (by simp only [List.getElem?_toArray, List.getElem?_cons_zero, List.getElem?_cons_succ]; exact rfl) (by kernel_rfl) (by kernel_rfl) (by kernel_rfl) (fun _ _ _ h => h) (Or.inl ⟨by rfl, ?ya8⟩) hSW ?ra8
        case ya8 =>
          intro w' hS
          obtain ⟨s0, s1⟩ := hS
          go_simp
          try with_reducible rfl
        case ra8 =>
        simp only [Act.put, List.setIfInBounds_toArray, List.set_cons_zero, List.set_cons_succ]
        refine wpAnyH_take (i := 10) (v := ?va9) (by simp only [List.getElem?_toArray, List.getElem?_cons_zero, List.getElem?_cons_succ]; exact rfl) (by kernel_rfl) (by kernel_rfl) (by kernel_rfl) (fun _ _ _ h => h) (Or.inl ⟨by rfl, ?ya9⟩) hSW ?ra9
        case ya9 =>
          intro w' hS
          obtain ⟨s0, s1⟩ := hS
          go_simp
          try with_reducible rfl
        case ra9 =>
        simp only [Act.put, List.setIfInBounds_toArray, List.set_cons_zero, List.set_cons_succ]
        refine wpAnyH_take (i := 11) (v := ?va10) (by simp only [List.getElem?_toArray, List.getElem?_cons_zero, List.getElem?_cons_succ]; exact rfl) (by kernel_rfl) (by kernel_rfl) (by kernel_rfl) (fun _ _ _ h => h) (Or.inl ⟨by rfl, ?ya10⟩) hSW ?ra10
        case ya10 =>
          intro w' hS
          obtain ⟨s0, s1⟩ := hS
          go_simp
          try with_reducible rfl
        case ra10 =>
        simp only [Act.put, List.setIfInBounds_toArray, List.set_cons_zero, List.set_cons_succ]
        refine wpAnyH_take (i := 12) (v := ?va11) (by simp only [List.getElem?_toArray, List.getElem?_cons_zero, List.getElem?_cons_succ]; exact rfl) (by kernel_rfl) (by kernel_rfl) (by kernel_rfl) (fun _ _ _ h => h) (Or.inl ⟨by rfl, ?ya11⟩) hSW ?ra11
        case ya11 =>
          intro w' hS
          obtain ⟨s0, s1⟩ := hS
          go_simp
          try with_reducible rfl
        case ra11 =>
        simp only [Act.put, List.setIfInBounds_toArray, List.set_cons_zero, List.set_cons_succ]
        refine wpAnyH_take (i := 13) (v := ?va12) (by simp only [List.getElem?_toArray, List.getElem?_cons_zero, List.getElem?_cons_succ]; exact rfl) (by kernel_rfl) (by kernel_rfl) (by kernel_rfl) (fun _ _ _ h => h) (Or.inl ⟨by rfl, ?ya12⟩) hSW ?ra12
        case ya12 =>
          intro w' hS
          obtain ⟨s0, s1⟩ := hS
          go_simp
          try with_reducible rfl
        case ra12 =>
        simp only [Act.put, List.setIfInBounds_toArray, List.set_cons_zero, List.set_cons_succ]
        refine wpAnyH_take (i := 15) (v := ?va13) (by simp only [List.getElem?_toArray, List.getElem?_cons_zero, List.getElem?_cons_succ]; exact rfl) (by kernel_rfl) (by kernel_rfl) (by kernel_rfl) (fun _ _ _ h => h) (Or.inl ⟨by rfl, ?ya13⟩) hSW ?ra13
        case ya13 =>
          intro w' hS
          obtain ⟨s0, s1⟩ := hS
          go_simp
          try with_reducible rfl
        case ra13 =>
        simp only [Act.put, List.setIfInBounds_toArray, List.set_cons_zero, List.set_cons_succ]
        refine wpAnyH_ready (rs := [6, 14]) (by kernel_rfl) (by simp) ?_
        refine AllReadyH.cons (by simp only [List.getElem?_toArray, List.getElem?_cons_zero, List.getElem?_cons_succ]; exact rfl) (fun K hK => ?_) (AllReadyH.cons (by simp only [List.getElem?_toArray, List.getElem?_cons_zero, List.getElem?_cons_succ]; exact rfl) (fun K hK => ?_) AllReadyH.nil)
        · go_simp
          refine (hCA.out W0 hB0).mono ?_
          rintro e w6 ⟨⟨g6, cap6, rfl, y6, hY6⟩, hb6⟩
          have HB6 : Below Wa.heap.size Wa w6 := (hB0).trans (hb6.mono (hB0).size)
          have HI6 : Below s3.heap.size s3 w6 := (hI0).trans (hb6.mono (hI0).size)
          have hS6 : w6.cell? ⟨w.heap.size, 3, none⟩ = some (.slice (some ⟨b, off, none⟩) xs.length c) ∧ w6.cell? ⟨b, off + i * 3 + 1, none⟩ = some (.string X) := (hR1.out w6 HB6).2
          go_simp
          refine hK.out _ _ hS6 (fun _ => ?_)
          clear hK K
          refine wpAnyH_take (i := 7) (v := ?va14) (by simp only [List.getElem?_toArray, List.getElem?_cons_zero, List.getElem?_cons_succ]; exact rfl) (by kernel_rfl) (by kernel_rfl) (by kernel_rfl) (fun _ _ _ h => h) (Or.inl ⟨by rfl, ?ya14⟩) hS6 ?ra14
          case ya14 =>
            intro w' hS
            obtain ⟨s0, s1⟩ := hS
            go_simp
            try with_reducible rfl
          case ra14 =>
          simp only [Act.put, List.setIfInBounds_toArray, List.set_cons_zero, List.set_cons_succ]
          refine wpAnyH_ready (rs := [14]) (by kernel_rfl) (by simp) ?_
          refine AllReadyH.cons (by simp only [List.getElem?_toArray, List.getElem?_cons_zero, List.getElem?_cons_succ]; exact rfl) (fun K hK => ?_) AllReadyH.nil
          go_simp
          have hSa : (w6.alloc (.cells #[.string X] 9)).cell? ⟨w.heap.size, 3, none⟩ = some (.slice (some ⟨b, off, none⟩) xs.length c) ∧ (w6.alloc (.cells #[.string X] 9)).cell? ⟨b, off + i * 3 + 1, none⟩ = some (.string X) := (hR1.out (w6.alloc (.cells #[.string X] 9)) ((HB6).alloc (HB6).size _)).2
          refine hK.out _ _ hSa (fun _ => ?_)
          clear hK K
          refine wpAnyH_ready (rs := [16]) (by kernel_rfl) (by simp) ?_
          refine AllReadyH.cons (by simp only [List.getElem?_toArray, List.getElem?_cons_zero, List.getElem?_cons_succ]; exact rfl) (fun K hK => ?_) AllReadyH.nil
          go_simp
          refine (hS1.out (w6.alloc (.cells #[.string X] 9)) _ g6 cap6 w6.heap.size y6 (HB6.alloc HB6.size _) (hY6.below ((Below.refl _ _).alloc (Nat.le_refl _) _)) (by rw [← hX]; exact row_new w6 [x.c])).mono ?_
          rintro e w7 ⟨⟨v7, z7, rfl, hZ7, hZm7⟩, hb7⟩
          obtain ⟨a7, k7, rfl, hZr7, _⟩ := hZ7.row
          have HB7 : Below Wa.heap.size Wa w7 := ((HB6.alloc HB6.size _)).trans (hb7.mono ((HB6.alloc HB6.size _)).size)
          have HI7 : Below s3.heap.size s3 w7 := ((HI6.alloc HI6.size _)).trans (hb7.mono ((HI6.alloc HI6.size _)).size)
          have hS7 : w7.cell? ⟨w.heap.size, 3, none⟩ = some (.slice (some ⟨b, off, none⟩) xs.length c) ∧ w7.cell? ⟨b, off + i * 3 + 1, none⟩ = some (.string X) := (hR1.out w7 HB7).2
          go_simp
          refine hK.out _ _ hS7 (fun _ => ?_)
          clear hK K
          refine wpAnyH_take (i := 17) (v := ?va15) (by simp only [List.getElem?_toArray, List.getElem?_cons_zero, List.getElem?_cons_succ]; exact rfl) (by kernel_rfl) (by kernel_rfl) (by kernel_rfl) (fun _ _ _ h => h) (Or.inl ⟨by rfl, ?ya15⟩) hS7 ?ra15
          case ya15 =>
            intro w' hS
            obtain ⟨s0, s1⟩ := hS
            go_simp
            try with_reducible rfl
          case ra15 =>
          simp only [Act.put, List.setIfInBounds_toArray, List.set_cons_zero, List.set_cons_succ]
          refine wpAnyH_done (by kernel_rfl) ?_ _
          refine NoPanic.normal ?_
          first | refine hK0 _ _ (Met.intro (hJ0 _ _ ?_)) | refine Met.intro (hJ0 _ _ ?_) | refine hJ0 _ _ ?_
          (repeat apply Exists.intro)
          refine ⟨?rel, rfl⟩
          case rel => exact ⟨a7, k7, z7, rfl, hZr7, hZm7, HI7⟩
        · go_simp
          have hSa : (W0.alloc (.cells #[.string X] 9)).cell? ⟨w.heap.size, 3, none⟩ = some (.slice (some ⟨b, off, none⟩) xs.length c) ∧ (W0.alloc (.cells #[.string X] 9)).cell? ⟨b, off + i * 3 + 1, none⟩ = some (.string X) := (hR1.out (W0.alloc (.cells #[.string X] 9)) ((hB0).alloc (hB0).size _)).2
          refine hK.out _ _ hSa (fun _ => ?_)
          clear hK K
          refine wpAnyH_ready (rs := [6]) (by kernel_rfl) (by simp) ?_
          refine AllReadyH.cons (by simp only [List.getElem?_toArray, List.getElem?_cons_zero, List.getElem?_cons_succ]; exact rfl) (fun K hK => ?_) AllReadyH.nil
          go_simp
          refine (hCA.out (W0.alloc (.cells #[.string X] 9)) (hB0.alloc hB0.size _)).mono ?_
          rintro e w6 ⟨⟨g6, cap6, rfl, y6, hY6⟩, hb6⟩
          have HB6 : Below Wa.heap.size Wa w6 := ((hB0.alloc hB0.size _)).trans (hb6.mono ((hB0.alloc hB0.size _)).size)
          have HI6 : Below s3.heap.size s3 w6 := ((hI0.alloc hI0.size _)).trans (hb6.mono ((hI0.alloc hI0.size _)).size)
          have hS6 : w6.cell? ⟨w.heap.size, 3, none⟩ = some (.slice (some ⟨b, off, none⟩) xs.length c) ∧ w6.cell? ⟨b, off + i * 3 + 1, none⟩ = some (.string X) := (hR1.out w6 HB6).2
          go_simp
          refine hK.out _ _ hS6 (fun _ => ?_)
          clear hK K
          refine wpAnyH_take (i := 7) (v := ?va16) (by simp only [List.getElem?_toArray, List.getElem?_cons_zero, List.getElem?_cons_succ]; exact rfl) (by kernel_rfl) (by kernel_rfl) (by kernel_rfl) (fun _ _ _ h => h) (Or.inl ⟨by rfl, ?ya16⟩) hS6 ?ra16
          case ya16 =>
            intro w' hS
            obtain ⟨s0, s1⟩ := hS
            go_simp
            try with_reducible rfl
          case ra16 =>
          simp only [Act.put, List.setIfInBounds_toArray, List.set_cons_zero, List.set_cons_succ]
          refine wpAnyH_ready (rs := [16]) (by kernel_rfl) (by simp) ?_
          refine AllReadyH.cons (by simp only [List.getElem?_toArray, List.getElem?_cons_zero, List.getElem?_cons_succ]; exact rfl) (fun K hK => ?_) AllReadyH.nil
          go_simp
          refine (hS1.out w6 _ g6 cap6 W0.heap.size y6 HB6 hY6 (by have hr := row_new W0 [x.c]; rw [show sv [x.c] = [.string X] from by rw [← hX]; rfl] at hr; exact hr.below hb6)).mono ?_
          rintro e w7 ⟨⟨v7, z7, rfl, hZ7, hZm7⟩, hb7⟩
          obtain ⟨a7, k7, rfl, hZr7, _⟩ := hZ7.row
          have HB7 : Below Wa.heap.size Wa w7 := (HB6).trans (hb7.mono (HB6).size)
          have HI7 : Below s3.heap.size s3 w7 := (HI6).trans (hb7.mono (HI6).size)
          have hS7 : w7.cell? ⟨w.heap.size, 3, none⟩ = some (.slice (some ⟨b, off, none⟩) xs.length c) ∧ w7.cell? ⟨b, off + i * 3 + 1, none⟩ = some (.string X) := (hR1.out w7 HB7).2
          go_simp
          refine hK.out _ _ hS7 (fun _ => ?_)
          clear hK K
          refine wpAnyH_take (i := 17) (v := ?va17) (by simp only [List.getElem?_toArray, List.getElem?_cons_zero, List.getElem?_cons_succ]; exact rfl) (by kernel_rfl) (by kernel_rfl) (by kernel_rfl) (fun _ _ _ h => h) (Or.inl ⟨by rfl, ?ya17⟩) hS7 ?ra17
          case ya17 =>
            intro w' hS
            obtain ⟨s0, s1⟩ := hS
            go_simp
            try with_reducible rfl
          case ra17 =>
          simp only [Act.put, List.setIfInBounds_toArray, List.set_cons_zero, List.set_cons_succ]
          refine wpAnyH_done (by kernel_rfl) ?_ _
          refine NoPanic.normal ?_
          first | refine hK0 _ _ (Met.intro (hJ0 _ _ ?_)) | refine Met.intro (hJ0 _ _ ?_) | refine hJ0 _ _ ?_
          (repeat apply Exists.intro)
          refine ⟨?rel, rfl⟩
          case rel => exact ⟨a7, k7, z7, rfl, hZr7, hZm7, HI7⟩
      case rest =>
        obtain ⟨a6, k6, z6, rfl, hZ⟩ := hcut
        have hBc : Below Wa.heap.size Wa wc := H6.out.1.trans (hZ.out.2.2.mono H6.out.1.size)
        obtain ⟨e3, e1⟩ := (hR1.out wc hBc).2
        go_upto_region 15 with fail
        go_wp2_with fail
        refine (hCn.out wc).mono ?_
        rintro e w8 ⟨hJ, hb8⟩
        have hB8 : Below Wa.heap.size Wa w8 := hBc.trans (hb8.mono hBc.size)
        obtain ⟨e3', e1'⟩ := (hR1.out w8 hB8).2
        have H8 : Hid (Below s3.heap.size s3 w8 ∧ ARow w8 a6 z6 ∧ z6.map pl = selL (wants [x.c]) ty [x] ∧ ARow w8 (some ⟨gw, 0, none⟩) zw) := ⟨hZ.out.2.2.trans (hb8.mono hZ.out.2.2.size), hZ.out.1.below hb8, hZ.out.2.1, H6.out.2.below (hZ.out.2.2.trans (hb8.mono hZ.out.2.2.size))⟩
        clear e3 e1 hZ hBc hb8 hCA hS1
        generalize ((desc (S (fold x.c))).2.1 : Int) = pn at *
        rcases hJ with ⟨hok, cx, hcx, rfl⟩ | ⟨hok, rfl⟩
        · by_cases hno : x.c = noneT
          · have hXn : X = ⟨#[49, 46, 49]⟩ := by rw [← hX, hno]; rfl
            rw [hXn] at e1'
            clear hX hno
            go_wp2_with fail
            go_roundw
            case rel => exact ⟨i + 1, hlt'.out, by simp, H8.out.1⟩
            case measure => have := hlt'.out; simp [intOf]; omega
          · have r3 : (X.toList == [49, 46, 49]) = false := by rw [← hX, Lib.toList_data, S_l]; exact beq_eq_false_iff_ne.2 hno
            have hz1 := H8.out.2.2.1
            rw [sel_one (wants_self hok hno)] at hz1
            have hl6 : z6.length = 1 := by
              have := congrArg List.length hz1
              simpa using this
            have hrw := H8.out.2.2.2.at1 i hzl.out
            have hzi' := hzi.out hzl.out
            have g9 : Hid (Calls Tryd.prog 10 #[.slice a6 1 k6, .slice (some ⟨gw, i * 3, none⟩) 1 (capw - i)] w8 fun e w' => e = .returned (.bool true) ∧ ∃ n, w' = w8.drewN n) := by
              rw [Nat.zero_add] at hrw
              have hh := hSm.out w8 z6 [zw[i]'hzl.out] a6 (some ⟨gw, i * 3, none⟩) k6 (capw - i) (by omega) (selA_sizes H8.out.2.2.1 (fun y hy => by rw [mem1 hy]; exact hxz'.out.1)) H8.out.2.1 hrw (by rw [hz1, hzi'])
              rw [hl6] at hh
              exact hh
            rw [hl6]
            clear hz1 hrw hzi' hl6 hX hno hok hcx
            go_wp2_with (go_at_call 10; refine g9.out.mono ?_; rintro e w9 ⟨rfl, n9, rfl⟩)
            go_roundw
            case rel => exact ⟨i + 1, hlt'.out, by simp, H8.out.1.trans (drewN_below _ _ _)⟩
            case measure => have := hlt'.out; simp [intOf]; omega
        · go_wp2_with fail
          go_roundw
          case rel => exact ⟨i + 1, hlt'.out, by simp, H8.out.1⟩
          case measure => have := hlt'.out; simp [intOf]; omega
    · have hie : i = xs.length := by omega
      subst hie
      have k1 : ¬ (xs.length : Int) < (xs.length : Int) := Int.lt_irrefl _
      go_wp2_with fail
      go_ret
      exact ⟨rfl, (hA0.out wr hBr).2.2.2⟩
end Go.Proofs.YtdeeegocjgikoaaDoor
