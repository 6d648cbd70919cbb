import Derived.Test.YtembeinglnojkaaDoorMgOwn
namespace Go.Proofs.YtembeinglnojkaaDoor
open Go.RowKit
set_option linter.unusedVariables false

set_option maxRecDepth 100000 in
set_option maxHeartbeats 1000000 in
theorem texts_any (l : List (List UInt8)) (a : Option Addr) (c : Nat) (w : World) (hl : l.length ≤ 8796093021952) (h1 : Row w a l) :
    Calls Tryd.prog 13 #[.slice a l.length c] w fun e w' => ∃ g cap, e = .returned (.slice (some ⟨g, 0, none⟩) l.length cap) ∧ Mkd w' w.heap.size g cap l ∧ Below w.heap.size w w' := by
  obtain ⟨v1, w1, hr1, ho1, hb1⟩ := append_row w w.heap.size _ [] l a l.length c (ownS_nil _ _) h1 rfl (Nat.le_refl _) (by simp; omega)
  rw [List.nil_append] at ho1
  obtain ⟨wA, hwA⟩ : ∃ wA, w1.alloc (.cells #[.string ⟨#[115, 112, 97, 114, 101]⟩] 9) = wA := ⟨_, rfl⟩
  have hbA : Below w.heap.size w wA := by rw [← hwA]; exact hb1.alloc hb1.size _
  have hoA : OwnS wA w.heap.size v1 l := by rw [← hwA]; exact World.ownsRow.alloc ho1 _
  have hsA : Row wA (some ⟨w1.heap.size, 0, none⟩) [spr] := by
    intro i hi
    simp at hi
    subst hi
    refine ⟨w1.heap.size, 0, rfl, ?_⟩
    rw [← hwA]
    simp [go_sem, S, spr]
  obtain ⟨v2, w2, hr2, ho2, hb2⟩ := append_row wA w.heap.size v1 l [spr] _ 1 1 hoA hsA rfl hbA.size (by simp; omega)
  obtain ⟨g, cap, rfl, hcap⟩ : ∃ g cap, v2 = .slice (some ⟨g, 0, none⟩) (l.length + 1) cap ∧ l.length + 1 ≤ cap := by
    rcases owns_form (show World.ownsRow _ _ 9 1 _ _ _ from ho2) with ⟨_, h⟩ | ⟨g, cap, h, h', _⟩
    · simp at h
    · rw [List.length_append] at h h'
      exact ⟨g, cap, h, h'⟩
  have hfin : Hid (Mkd w2 w.heap.size g cap l ∧ Below w.heap.size w w2) := ⟨ho2, hbA.trans hb2⟩
  obtain ⟨va, vn, vc, rfl⟩ : ∃ va vn vc, v1 = .slice va vn vc := by
    obtain ⟨x, y, h, _⟩ := owns_slice (show World.ownsRow _ _ 9 1 _ _ _ from ho1)
    exact ⟨_, _, _, h⟩
  have n0 : (0 : Int) ≤ (l.length : Int) := Int.natCast_nonneg _
  have n1 : l.length ≤ cap := by omega
  clear hb1 ho1 hbA hoA hsA ho2 hb2 hcap h1 hl
  go_enter Tryd.func13, Tryd.ntmps13
  go_wp2_with (first | (at_builtin; refine Lib.wpList_append_run _ rfl _ _ _ _ rfl _ _ rfl rfl _ _ hr1 ?_) | (at_builtin; refine Lib.wpList_append_run _ rfl _ _ _ _ rfl _ _ rfl rfl _ _ hr2 ?_))
  go_ret
  exact ⟨g, cap, rfl, hfin.out⟩

set_option maxRecDepth 100000 in
set_option maxHeartbeats 4000000 in
theorem nodes_any (xs : List Nod) (a : Option Addr) (c : Nat) (w : World) (hn : xs.length ≤ 1099511627744) (hl : ∀ x ∈ xs, x.l.length ≤ 8796093021952) (h : RdG 9 nV nT w a xs) :
    Calls Tryd.prog 12 #[.slice a xs.length c] w fun e w' => (∃ g cap ys, e = .returned (.slice (some ⟨g, 0, none⟩) xs.length cap) ∧ (∀ W, Agr w.heap.size w' W → MkG 9 nV nT zNo W (some ⟨g, 0, none⟩) cap ys) ∧ ys.map np = xs.map np) ∧ Below w.heap.size w w' := by
  have h' : Hid (RdG 9 nV nT w a xs) := h
  have hl' : Hid (∀ x ∈ xs, x.l.length ≤ 8796093021952) := hl
  clear h hl
  have hI0 : Hid (OwnM 72 9 nV nT w w.heap.size (.slice none 0 0) [] ∧ ([] : List Nod).map np = (xs.take 0).map np ∧ Below w.heap.size w w) := ⟨OwnM.nil _ _ _ _ _ _, by simp, Below.refl _ _⟩
  go_enter Tryd.func12, Tryd.ntmps12
  go_wp2_with fail
  go_loopw [3, 4] (fun mv iv wr => ∃ (i : Nat) (ys : List Nod), i ≤ xs.length ∧ iv = .int .i64 (i : Int) ∧ Hid (OwnM 72 9 nV nT wr w.heap.size mv ys ∧ ys.map np = (xs.take i).map np ∧ Below w.heap.size w wr)) (fun _ iv _ => xs.length - (intOf iv).toNat)
  case atStart => exact ⟨0, [], Nat.zero_le _, rfl, hI0⟩
  case round =>
    obtain ⟨i, ys, hi, rfl, hI⟩ := hrel
    clear hI0
    have hyl : Hid (ys.length = i) := by
      have := congrArg List.length hI.out.2.1
      simp at this
      unfold Hid
      omega
    obtain ⟨ma, mc, hmv⟩ := hI.out.1.slice
    subst hmv
    by_cases hlt : i < xs.length
    · obtain ⟨b, off, rfl, h0⟩ := (h'.out.below nV_len hI.out.2.2).1 i hlt
      have hrow := (h'.out.below nV_len hI.out.2.2).2 _ (List.getElem_mem hlt)
      have i0 : (0 : Int) ≤ (i : Int) := Int.natCast_nonneg _
      have i1 : (i : Int) < (xs.length : Int) := Int.ofNat_lt.2 hlt
      have htk : Hid (xs.take (i + 1) = xs.take i ++ [xs[i]]) := List.take_succ_eq_append_getElem hlt
      have hxl : xs[i].l.length ≤ 8796093021952 := hl'.out _ (List.getElem_mem hlt)
      obtain ⟨⟨xd, xo, xs', xv, xi, xa, xn, xl, xf, xr, xb⟩, hx⟩ : ∃ x, xs[i] = x := ⟨_, rfl⟩
      rw [hx] at h0 hrow htk hxl
      dsimp only [nT] at hrow hxl
      obtain ⟨c0, c1, c2, c3, c4, c5, c6, c7, c8⟩ : wr.cell? ⟨b, off + i * 9, none⟩ = some (.int .i64 xd) ∧ wr.cell? ⟨b, off + i * 9 + 1, none⟩ = some (.int .i64 xo) ∧ wr.cell? ⟨b, off + i * 9 + 2, none⟩ = some (.string (S xs')) ∧ wr.cell? ⟨b, off + i * 9 + 3, none⟩ = some (.string (S xv)) ∧ wr.cell? ⟨b, off + i * 9 + 4, none⟩ = some (.string (S xi)) ∧ wr.cell? ⟨b, off + i * 9 + 5, none⟩ = some (.slice xa xl.length xn) ∧ wr.cell? ⟨b, off + i * 9 + 6, none⟩ = some (.string (S xf)) ∧ wr.cell? ⟨b, off + i * 9 + 7, none⟩ = some (.string (S xr)) ∧ wr.cell? ⟨b, off + i * 9 + 8, none⟩ = some (.bool xb) := ⟨h0 0 (by omega), h0 1 (by omega), h0 2 (by omega), h0 3 (by omega), h0 4 (by omega), h0 5 (by omega), h0 6 (by omega), h0 7 (by omega), h0 8 (by omega)⟩
      have hlt' : Hid (i < xs.length) := hlt
      obtain ⟨wA, hwA⟩ : ∃ W, wr.alloc (.cells #[.int .i64 xd, .int .i64 xo, .string (S xs'), .string (S xv), .string (S xi), .slice xa xl.length xn, .string (S xf), .string (S xr), .bool xb] 72) = W := ⟨_, rfl⟩
      have bA : Box wA wr.heap.size 72 #[.int .i64 xd, .int .i64 xo, .string (S xs'), .string (S xv), .string (S xi), .slice xa xl.length xn, .string (S xf), .string (S xr), .bool xb] := by rw [← hwA]; exact Box.new _ _ _
      have hbA : Below wr.heap.size wr wA := by rw [← hwA]; exact (Below.refl _ _).alloc (Nat.le_refl _) _
      have hT : Hid (Calls Tryd.prog 13 #[.slice xa xl.length xn] wA fun e w' => ∃ g cap, e = .returned (.slice (some ⟨g, 0, none⟩) xl.length cap) ∧ Mkd w' wA.heap.size g cap xl ∧ Below wA.heap.size wA w') := texts_any xl xa xn wA hxl (hrow.below hbA)
      have e5 : wA.cell? ⟨wr.heap.size, 5, none⟩ = some (.slice xa xl.length xn) := (bA.cell 5 (by simp)).1
      have hK : Hid (∀ W, Below wA.heap.size wA W → Box W wr.heap.size 72 #[.int .i64 xd, .int .i64 xo, .string (S xs'), .string (S xv), .string (S xi), .slice xa xl.length xn, .string (S xf), .string (S xr), .bool xb]) := fun W hb => bA.below hb
      have KA : Hid (Below wr.heap.size wr wA ∧ wr.heap.size < wA.heap.size) := ⟨hbA, bA.lt⟩
      clear bA hbA hrow hxl hx hlt h0
      obtain ⟨s1, Gs1⟩ : ∃ X, S xs' = X := ⟨_, rfl⟩
      obtain ⟨t1, Gt1⟩ : ∃ X, S xv = X := ⟨_, rfl⟩
      obtain ⟨p1, Gp1⟩ : ∃ X, S xi = X := ⟨_, rfl⟩
      obtain ⟨q1, Gq1⟩ : ∃ X, S xf = X := ⟨_, rfl⟩
      obtain ⟨r1, Gr1⟩ : ∃ X, S xr = X := ⟨_, rfl⟩
      simp only [Gs1, Gt1, Gp1, Gq1, Gr1] at c2 c3 c4 c6 c7 hwA hK
      have Hs1 : Hid (S xs' = s1) := Gs1
      have Ht1 : Hid (S xv = t1) := Gt1
      have Hp1 : Hid (S xi = p1) := Gp1
      have Hq1 : Hid (S xf = q1) := Gq1
      have Hr1 : Hid (S xr = r1) := Gr1
      clear Gs1 Gt1 Gp1 Gq1 Gr1
      go_upto_region 6 with fail
      clear c0 c1 c2 c3 c4 c5 c6 c7 c8 hwA
      go_upto_region 7 with (go_at_call 13; refine hT.out.mono ?_; rintro e w1 ⟨vg, vc, rfl, hM, hb1⟩; have f5 := ((hK.out w1 hb1).cell 5 (by simp)).1; have y5 := ((hK.out w1 hb1).cell 5 (by simp)).2)
      have b1 := hK.out w1 hb1
      obtain ⟨hbA, hsz⟩ := KA.out
      clear hT e5 f5 y5 hK KA
      obtain ⟨w3, hw3⟩ : ∃ W, w1.setCell ⟨wr.heap.size, 5, none⟩ (.slice (some ⟨vg, 0, none⟩) xl.length vc) = W := ⟨_, rfl⟩
      rw [hw3]
      have b3 : Box w3 wr.heap.size 72 #[.int .i64 xd, .int .i64 xo, .string s1, .string t1, .string p1, .slice (some ⟨vg, 0, none⟩) xl.length vc, .string q1, .string r1, .bool xb] := by rw [← hw3]; exact b1.set 5 _
      have keep3 : ∀ k, k < wr.heap.size → w3.heap[k]? = wr.heap[k]? := fun k hk => by
        rw [← hw3, Below.heap_setCell _ _ _ _ (by show k ≠ wr.heap.size; omega), hb1.block k (by omega), hbA.block k hk]
      have hB3 : Below wr.heap.size wr w3 := by rw [← hw3]; exact (hbA.trans (hb1.mono (by omega))).setCell (p := ⟨wr.heap.size, 5, none⟩) (Nat.le_refl _) _
      have hB0 : w.heap.size ≤ wr.heap.size := hI.out.2.2.size
      have hM3 : Mkd w3 w.heap.size vg vc xl := (hM.of (by rw [← hw3]; exact Below.heap_setCell _ _ _ _ (by show vg ≠ wr.heap.size; have := hM.lt.1; omega))).base (by omega)
      have hO3 : OwnM 72 9 nV nT w3 w.heap.size (.slice ma ys.length mc) ys := hI.out.1.keep keep3
      obtain ⟨y, hy⟩ : ∃ y : Nod, y = ⟨xd, xo, xs', xv, xi, some ⟨vg, 0, none⟩, vc, xl, xf, xr, xb⟩ := ⟨_, rfl⟩
      obtain ⟨w4, hw4⟩ : ∃ W, w3.alloc (.cells #[.int .i64 xd, .int .i64 xo, .string s1, .string t1, .string p1, .slice (some ⟨vg, 0, none⟩) xl.length vc, .string q1, .string r1, .bool xb] 72) = W := ⟨_, rfl⟩
      have b4 : Box w4 w3.heap.size 72 (nV y).toArray := by rw [hy, ← hw4]; unfold nV; rw [Hs1.out, Ht1.out, Hp1.out, Hq1.out, Hr1.out]; exact Box.new _ _ _
      have hb4 : Below w3.heap.size w3 w4 := by rw [← hw4]; exact (Below.refl _ _).alloc (Nat.le_refl _) _
      have hO4 : OwnM 72 9 nV nT w4 w.heap.size (.slice ma ys.length mc) ys := hO3.keep (fun b hb => hb4.block b hb)
      have hM4 : ∃ g, (nT y).1 = some ⟨g, 0, none⟩ ∧ Mkd w4 w.heap.size g (nT y).2.1 (nT y).2.2 := by rw [hy]; exact ⟨vg, rfl, hM3.below hb4⟩
      have hB4 : Below w.heap.size w w4 := hI.out.2.2.trans ((hB3.mono hB0).trans (hb4.mono (by have := hB3.size; omega)))
      have hnp : Hid ((ys ++ [y]).map np = (xs.take (i + 1)).map np) := by
        unfold Hid
        rw [List.map_append, hI.out.2.1, htk.out, List.map_append, hy]
        rfl
      have hs4 : w.heap.size ≤ w4.heap.size := hB4.size
      have hyn : (ys.length + 1) * 128 ≤ 140737488355328 := by have := hyl.out; omega
      obtain ⟨g0, g1, g2, g3, g4, g5, g6, g7, g8⟩ : w3.cell? ⟨wr.heap.size, 0, none⟩ = some (.int .i64 xd) ∧ w3.cell? ⟨wr.heap.size, 1, none⟩ = some (.int .i64 xo) ∧ w3.cell? ⟨wr.heap.size, 2, none⟩ = some (.string s1) ∧ w3.cell? ⟨wr.heap.size, 3, none⟩ = some (.string t1) ∧ w3.cell? ⟨wr.heap.size, 4, none⟩ = some (.string p1) ∧ w3.cell? ⟨wr.heap.size, 5, none⟩ = some (.slice (some ⟨vg, 0, none⟩) xl.length vc) ∧ w3.cell? ⟨wr.heap.size, 6, none⟩ = some (.string q1) ∧ w3.cell? ⟨wr.heap.size, 7, none⟩ = some (.string r1) ∧ w3.cell? ⟨wr.heap.size, 8, none⟩ = some (.bool xb) := ⟨(b3.cell 0 (by simp)).1, (b3.cell 1 (by simp)).1, (b3.cell 2 (by simp)).1, (b3.cell 3 (by simp)).1, (b3.cell 4 (by simp)).1, (b3.cell 5 (by simp)).1, (b3.cell 6 (by simp)).1, (b3.cell 7 (by simp)).1, (b3.cell 8 (by simp)).1⟩
      clear hB0 hB3 keep3 b3 hb1 hsz b1 hbA htk hy hw3 hO3 hM3 hb4 hM
      go_wp2_with (at_builtin; refine push_gen kd_nod _ rfl _ _ rfl w.heap.size _ ys y w3.heap.size rfl rfl hO4.1 b4 hs4 hyn (by decide) ?_; intro g' cap' w5 hO5 hk5 hb5)
      have hfin : Hid (OwnM 72 9 nV nT w5 w.heap.size (.slice (some ⟨g', 0, none⟩) (ys.length + 1) cap') (ys ++ [y]) ∧ (ys ++ [y]).map np = (xs.take (i + 1)).map np ∧ Below w.heap.size w w5) :=
        ⟨ownM_push (by decide) hO4 hM4 hO5 hk5, hnp.out, hB4.trans hb5⟩
      clear hO5 hk5 hb5 hO4 hM4 hB4 b4 hs4 hyn hw4 g0 g1 g2 g3 g4 g5 g6 g7 g8 hI
      go_wp2_with fail
      go_roundw
      case rel => exact ⟨i + 1, ys ++ [y], hlt'.out, by simp, hfin⟩
      case measure => have := hlt'.out; simp [intOf]; omega
    · have hie : i = xs.length := by omega
      subst hie
      rw [List.take_length] at hI
      have k1 : ¬ (xs.length : Int) < (xs.length : Int) := by omega
      obtain ⟨w4, hw4⟩ : ∃ W, wr.alloc (.cells #[.int .i64 0, .int .i64 0, .string ⟨#[115, 112, 97, 114, 101]⟩, .string ⟨#[]⟩, .string ⟨#[]⟩, .slice none 0 0, .string ⟨#[]⟩, .string ⟨#[]⟩, .bool false] 72) = W := ⟨_, rfl⟩
      have b4 : Box w4 wr.heap.size 72 (nV zNo).toArray := by rw [← hw4]; exact Box.new _ _ _
      have hb4 : Below wr.heap.size wr w4 := by rw [← hw4]; exact (Below.refl _ _).alloc (Nat.le_refl _) _
      have hO4 : OwnM 72 9 nV nT w4 w.heap.size (.slice ma ys.length mc) ys := hI.out.1.keep (fun b hb => hb4.block b hb)
      have hB4 : Below w.heap.size w w4 := hI.out.2.2.trans (hb4.mono hI.out.2.2.size)
      have hs4 : w.heap.size ≤ w4.heap.size := hB4.size
      have hyn : (ys.length + 1) * 128 ≤ 140737488355328 := by have := hyl.out; omega
      have n0 : (0 : Int) ≤ (xs.length : Int) := Int.natCast_nonneg _
      have hP : Hid (ys.map np = xs.map np) := hI.out.2.1
      clear hI
      go_wp2_with (at_builtin; refine push_gen kd_nod _ rfl _ _ rfl w.heap.size _ ys zNo wr.heap.size rfl rfl hO4.1 b4 hs4 hyn (by decide) ?_; intro g' cap' w5 hO5 hk5 hb5; have hG := mkB_of (by decide) nV_len hO4 hO5 hk5; have n1 : xs.length ≤ cap' := by have := (hG _ (Agr.refl _ _)).2.1; have := hyl.out; omega)
      go_ret
      exact ⟨⟨g', cap', rfl, ys, hG, hP.out⟩, hB4.trans hb5⟩

set_option maxRecDepth 100000 in
set_option maxHeartbeats 4000000 in
theorem changes_any (xs : List Chg) (a : Option Addr) (c : Nat) (w : World) (hn : xs.length ≤ 2932031007317) (hl : ∀ x ∈ xs, x.l.length ≤ 8796093021952) (h : RdG 3 cV cT w a xs) :
    Calls Tryd.prog 14 #[.slice a xs.length c] w fun e w' => (∃ g cap ys, e = .returned (.slice (some ⟨g, 0, none⟩) xs.length cap) ∧ (∀ W, Agr w.heap.size w' W → MkG 3 cV cT zCh W (some ⟨g, 0, none⟩) cap ys) ∧ ys.map cP = xs.map cP) ∧ Below w.heap.size w w' := by
  have h' : Hid (RdG 3 cV cT w a xs) := h
  have hl' : Hid (∀ x ∈ xs, x.l.length ≤ 8796093021952) := hl
  clear h hl
  have hI0 : Hid (OwnM 74 3 cV cT w w.heap.size (.slice none 0 0) [] ∧ ([] : List Chg).map cP = (xs.take 0).map cP ∧ Below w.heap.size w w) := ⟨OwnM.nil _ _ _ _ _ _, by simp, Below.refl _ _⟩
  go_enter Tryd.func14, Tryd.ntmps14
  go_wp2_with fail
  go_loopw [3, 4] (fun mv iv wr => ∃ (i : Nat) (ys : List Chg), i ≤ xs.length ∧ iv = .int .i64 (i : Int) ∧ Hid (OwnM 74 3 cV cT wr w.heap.size mv ys ∧ ys.map cP = (xs.take i).map cP ∧ Below w.heap.size w wr)) (fun _ iv _ => xs.length - (intOf iv).toNat)
  case atStart => exact ⟨0, [], Nat.zero_le _, rfl, hI0⟩
  case round =>
    obtain ⟨i, ys, hi, rfl, hI⟩ := hrel
    clear hI0
    have hyl : Hid (ys.length = i) := by
      have := congrArg List.length hI.out.2.1
      simp at this
      unfold Hid
      omega
    obtain ⟨ma, mc, hmv⟩ := hI.out.1.slice
    subst hmv
    by_cases hlt : i < xs.length
    · obtain ⟨b, off, rfl, h0⟩ := (h'.out.below cV_len hI.out.2.2).1 i hlt
      have hrow := (h'.out.below cV_len hI.out.2.2).2 _ (List.getElem_mem hlt)
      have i0 : (0 : Int) ≤ (i : Int) := Int.natCast_nonneg _
      have i1 : (i : Int) < (xs.length : Int) := Int.ofNat_lt.2 hlt
      have htk : Hid (xs.take (i + 1) = xs.take i ++ [xs[i]]) := List.take_succ_eq_append_getElem hlt
      have hxl : xs[i].l.length ≤ 8796093021952 := hl'.out _ (List.getElem_mem hlt)
      obtain ⟨⟨xd, xs', xa, xn, xl⟩, hx⟩ : ∃ x, xs[i] = x := ⟨_, rfl⟩
      rw [hx] at h0 hrow htk hxl
      dsimp only [cT] at hrow hxl
      obtain ⟨c0, c1, c2⟩ : wr.cell? ⟨b, off + i * 3, none⟩ = some (.int .i64 xd) ∧ wr.cell? ⟨b, off + i * 3 + 1, none⟩ = some (.string (S xs')) ∧ wr.cell? ⟨b, off + i * 3 + 2, none⟩ = some (.slice xa xl.length xn) := ⟨h0 0 (by omega), h0 1 (by omega), h0 2 (by omega)⟩
      have hlt' : Hid (i < xs.length) := hlt
      obtain ⟨wA, hwA⟩ : ∃ W, wr.alloc (.cells #[.int .i64 xd, .string (S xs'), .slice xa xl.length xn] 74) = W := ⟨_, rfl⟩
      have bA : Box wA wr.heap.size 74 #[.int .i64 xd, .string (S xs'), .slice xa xl.length xn] := by rw [← hwA]; exact Box.new _ _ _
      have hbA : Below wr.heap.size wr wA := by rw [← hwA]; exact (Below.refl _ _).alloc (Nat.le_refl _) _
      have hT : Hid (Calls Tryd.prog 13 #[.slice xa xl.length xn] wA fun e w' => ∃ g cap, e = .returned (.slice (some ⟨g, 0, none⟩) xl.length cap) ∧ Mkd w' wA.heap.size g cap xl ∧ Below wA.heap.size wA w') := texts_any xl xa xn wA hxl (hrow.below hbA)
      have e5 : wA.cell? ⟨wr.heap.size, 2, none⟩ = some (.slice xa xl.length xn) := (bA.cell 2 (by simp)).1
      have hK : Hid (∀ W, Below wA.heap.size wA W → Box W wr.heap.size 74 #[.int .i64 xd, .string (S xs'), .slice xa xl.length xn]) := fun W hb => bA.below hb
      have KA : Hid (Below wr.heap.size wr wA ∧ wr.heap.size < wA.heap.size) := ⟨hbA, bA.lt⟩
      clear bA hbA hrow hxl hx hlt h0
      obtain ⟨s1, Gs1⟩ : ∃ X, S xs' = X := ⟨_, rfl⟩
      simp only [Gs1] at c1 hwA hK
      have Hs1 : Hid (S xs' = s1) := Gs1
      clear Gs1
      go_upto_region 6 with fail
      clear c0 c1 c2 hwA
      go_upto_region 7 with (go_at_call 13; refine hT.out.mono ?_; rintro e w1 ⟨vg, vc, rfl, hM, hb1⟩; have f5 := ((hK.out w1 hb1).cell 2 (by simp)).1; have y5 := ((hK.out w1 hb1).cell 2 (by simp)).2)
      have b1 := hK.out w1 hb1
      obtain ⟨hbA, hsz⟩ := KA.out
      clear hT e5 f5 y5 hK KA
      obtain ⟨w3, hw3⟩ : ∃ W, w1.setCell ⟨wr.heap.size, 2, none⟩ (.slice (some ⟨vg, 0, none⟩) xl.length vc) = W := ⟨_, rfl⟩
      rw [hw3]
      have b3 : Box w3 wr.heap.size 74 #[.int .i64 xd, .string s1, .slice (some ⟨vg, 0, none⟩) xl.length vc] := by rw [← hw3]; exact b1.set 2 _
      have keep3 : ∀ k, k < wr.heap.size → w3.heap[k]? = wr.heap[k]? := fun k hk => by
        rw [← hw3, Below.heap_setCell _ _ _ _ (by show k ≠ wr.heap.size; omega), hb1.block k (by omega), hbA.block k hk]
      have hB3 : Below wr.heap.size wr w3 := by rw [← hw3]; exact (hbA.trans (hb1.mono (by omega))).setCell (p := ⟨wr.heap.size, 2, none⟩) (Nat.le_refl _) _
      have hB0 : w.heap.size ≤ wr.heap.size := hI.out.2.2.size
      have hM3 : Mkd w3 w.heap.size vg vc xl := (hM.of (by rw [← hw3]; exact Below.heap_setCell _ _ _ _ (by show vg ≠ wr.heap.size; have := hM.lt.1; omega))).base (by omega)
      have hO3 : OwnM 74 3 cV cT w3 w.heap.size (.slice ma ys.length mc) ys := hI.out.1.keep keep3
      obtain ⟨y, hy⟩ : ∃ y : Chg, y = ⟨xd, xs', some ⟨vg, 0, none⟩, vc, xl⟩ := ⟨_, rfl⟩
      obtain ⟨w4, hw4⟩ : ∃ W, w3.alloc (.cells #[.int .i64 xd, .string s1, .slice (some ⟨vg, 0, none⟩) xl.length vc] 74) = W := ⟨_, rfl⟩
      have b4 : Box w4 w3.heap.size 74 (cV y).toArray := by rw [hy, ← hw4]; unfold cV; rw [Hs1.out]; exact Box.new _ _ _
      have hb4 : Below w3.heap.size w3 w4 := by rw [← hw4]; exact (Below.refl _ _).alloc (Nat.le_refl _) _
      have hO4 : OwnM 74 3 cV cT w4 w.heap.size (.slice ma ys.length mc) ys := hO3.keep (fun b hb => hb4.block b hb)
      have hM4 : ∃ g, (cT y).1 = some ⟨g, 0, none⟩ ∧ Mkd w4 w.heap.size g (cT y).2.1 (cT y).2.2 := by rw [hy]; exact ⟨vg, rfl, hM3.below hb4⟩
      have hB4 : Below w.heap.size w w4 := hI.out.2.2.trans ((hB3.mono hB0).trans (hb4.mono (by have := hB3.size; omega)))
      have hnp : Hid ((ys ++ [y]).map cP = (xs.take (i + 1)).map cP) := by
        unfold Hid
        rw [List.map_append, hI.out.2.1, htk.out, List.map_append, hy]
        rfl
      have hs4 : w.heap.size ≤ w4.heap.size := hB4.size
      have hyn : (ys.length + 1) * 48 ≤ 140737488355328 := by have := hyl.out; omega
      obtain ⟨g0, g1, g2⟩ : w3.cell? ⟨wr.heap.size, 0, none⟩ = some (.int .i64 xd) ∧ w3.cell? ⟨wr.heap.size, 1, none⟩ = some (.string s1) ∧ w3.cell? ⟨wr.heap.size, 2, none⟩ = some (.slice (some ⟨vg, 0, none⟩) xl.length vc) := ⟨(b3.cell 0 (by simp)).1, (b3.cell 1 (by simp)).1, (b3.cell 2 (by simp)).1⟩
      clear hB0 hB3 keep3 b3 hb1 hsz b1 hbA htk hy hw3 hO3 hM3 hb4 hM
      go_wp2_with (at_builtin; refine push_gen kd_chg _ rfl _ _ rfl w.heap.size _ ys y w3.heap.size rfl rfl hO4.1 b4 hs4 hyn (by decide) ?_; intro g' cap' w5 hO5 hk5 hb5)
      have hfin : Hid (OwnM 74 3 cV cT w5 w.heap.size (.slice (some ⟨g', 0, none⟩) (ys.length + 1) cap') (ys ++ [y]) ∧ (ys ++ [y]).map cP = (xs.take (i + 1)).map cP ∧ Below w.heap.size w w5) :=
        ⟨ownM_push (by decide) hO4 hM4 hO5 hk5, hnp.out, hB4.trans hb5⟩
      clear hO5 hk5 hb5 hO4 hM4 hB4 b4 hs4 hyn hw4 g0 g1 g2 hI
      go_wp2_with fail
      go_roundw
      case rel => exact ⟨i + 1, ys ++ [y], hlt'.out, by simp, hfin⟩
      case measure => have := hlt'.out; simp [intOf]; omega
    · have hie : i = xs.length := by omega
      subst hie
      rw [List.take_length] at hI
      have k1 : ¬ (xs.length : Int) < (xs.length : Int) := by omega
      obtain ⟨w4, hw4⟩ : ∃ W, wr.alloc (.cells #[.int .i64 0, .string ⟨#[115, 112, 97, 114, 101]⟩, .slice none 0 0] 74) = W := ⟨_, rfl⟩
      have b4 : Box w4 wr.heap.size 74 (cV zCh).toArray := by rw [← hw4]; exact Box.new _ _ _
      have hb4 : Below wr.heap.size wr w4 := by rw [← hw4]; exact (Below.refl _ _).alloc (Nat.le_refl _) _
      have hO4 : OwnM 74 3 cV cT w4 w.heap.size (.slice ma ys.length mc) ys := hI.out.1.keep (fun b hb => hb4.block b hb)
      have hB4 : Below w.heap.size w w4 := hI.out.2.2.trans (hb4.mono hI.out.2.2.size)
      have hs4 : w.heap.size ≤ w4.heap.size := hB4.size
      have hyn : (ys.length + 1) * 48 ≤ 140737488355328 := by have := hyl.out; omega
      have n0 : (0 : Int) ≤ (xs.length : Int) := Int.natCast_nonneg _
      have hP : Hid (ys.map cP = xs.map cP) := hI.out.2.1
      clear hI
      go_wp2_with (at_builtin; refine push_gen kd_chg _ rfl _ _ rfl w.heap.size _ ys zCh wr.heap.size rfl rfl hO4.1 b4 hs4 hyn (by decide) ?_; intro g' cap' w5 hO5 hk5 hb5; have hG := mkB_of (by decide) cV_len hO4 hO5 hk5; have n1 : xs.length ≤ cap' := by have := (hG _ (Agr.refl _ _)).2.1; have := hyl.out; omega)
      go_ret
      exact ⟨⟨g', cap', rfl, ys, hG, hP.out⟩, hB4.trans hb5⟩

set_option maxRecDepth 100000 in
set_option maxHeartbeats 4000000 in
theorem attrs_any (xs : List Att) (a : Option Addr) (c : Nat) (w : World) (hn : xs.length ≤ 2513169434843) (hl : ∀ x ∈ xs, x.l.length ≤ 8796093021952) (h : RdG 3 tV tT w a xs) :
    Calls Tryd.prog 15 #[.slice a xs.length c] w fun e w' => (∃ g cap ys, e = .returned (.slice (some ⟨g, 0, none⟩) xs.length cap) ∧ (∀ W, Agr w.heap.size w' W → MkG 3 tV tT zAt W (some ⟨g, 0, none⟩) cap ys) ∧ ys.map tP = xs.map tP) ∧ Below w.heap.size w w' := by
  have h' : Hid (RdG 3 tV tT w a xs) := h
  have hl' : Hid (∀ x ∈ xs, x.l.length ≤ 8796093021952) := hl
  clear h hl
  have hI0 : Hid (OwnM 76 3 tV tT w w.heap.size (.slice none 0 0) [] ∧ ([] : List Att).map tP = (xs.take 0).map tP ∧ Below w.heap.size w w) := ⟨OwnM.nil _ _ _ _ _ _, by simp, Below.refl _ _⟩
  go_enter Tryd.func15, Tryd.ntmps15
  go_wp2_with fail
  go_loopw [3, 4] (fun mv iv wr => ∃ (i : Nat) (ys : List Att), i ≤ xs.length ∧ iv = .int .i64 (i : Int) ∧ Hid (OwnM 76 3 tV tT wr w.heap.size mv ys ∧ ys.map tP = (xs.take i).map tP ∧ Below w.heap.size w wr)) (fun _ iv _ => xs.length - (intOf iv).toNat)
  case atStart => exact ⟨0, [], Nat.zero_le _, rfl, hI0⟩
  case round =>
    obtain ⟨i, ys, hi, rfl, hI⟩ := hrel
    clear hI0
    have hyl : Hid (ys.length = i) := by
      have := congrArg List.length hI.out.2.1
      simp at this
      unfold Hid
      omega
    obtain ⟨ma, mc, hmv⟩ := hI.out.1.slice
    subst hmv
    by_cases hlt : i < xs.length
    · obtain ⟨b, off, rfl, h0⟩ := (h'.out.below tV_len hI.out.2.2).1 i hlt
      have hrow := (h'.out.below tV_len hI.out.2.2).2 _ (List.getElem_mem hlt)
      have i0 : (0 : Int) ≤ (i : Int) := Int.natCast_nonneg _
      have i1 : (i : Int) < (xs.length : Int) := Int.ofNat_lt.2 hlt
      have htk : Hid (xs.take (i + 1) = xs.take i ++ [xs[i]]) := List.take_succ_eq_append_getElem hlt
      have hxl : xs[i].l.length ≤ 8796093021952 := hl'.out _ (List.getElem_mem hlt)
      obtain ⟨⟨xs', xv, xa, xn, xl⟩, hx⟩ : ∃ x, xs[i] = x := ⟨_, rfl⟩
      rw [hx] at h0 hrow htk hxl
      dsimp only [tT] at hrow hxl
      obtain ⟨c0, c1, c2⟩ : wr.cell? ⟨b, off + i * 3, none⟩ = some (.string (S xs')) ∧ wr.cell? ⟨b, off + i * 3 + 1, none⟩ = some (.string (S xv)) ∧ wr.cell? ⟨b, off + i * 3 + 2, none⟩ = some (.slice xa xl.length xn) := ⟨h0 0 (by omega), h0 1 (by omega), h0 2 (by omega)⟩
      have hlt' : Hid (i < xs.length) := hlt
      obtain ⟨wA, hwA⟩ : ∃ W, wr.alloc (.cells #[.string (S xs'), .string (S xv), .slice xa xl.length xn] 76) = W := ⟨_, rfl⟩
      have bA : Box wA wr.heap.size 76 #[.string (S xs'), .string (S xv), .slice xa xl.length xn] := by rw [← hwA]; exact Box.new _ _ _
      have hbA : Below wr.heap.size wr wA := by rw [← hwA]; exact (Below.refl _ _).alloc (Nat.le_refl _) _
      have hT : Hid (Calls Tryd.prog 13 #[.slice xa xl.length xn] wA fun e w' => ∃ g cap, e = .returned (.slice (some ⟨g, 0, none⟩) xl.length cap) ∧ Mkd w' wA.heap.size g cap xl ∧ Below wA.heap.size wA w') := texts_any xl xa xn wA hxl (hrow.below hbA)
      have e5 : wA.cell? ⟨wr.heap.size, 2, none⟩ = some (.slice xa xl.length xn) := (bA.cell 2 (by simp)).1
      have hK : Hid (∀ W, Below wA.heap.size wA W → Box W wr.heap.size 76 #[.string (S xs'), .string (S xv), .slice xa xl.length xn]) := fun W hb => bA.below hb
      have KA : Hid (Below wr.heap.size wr wA ∧ wr.heap.size < wA.heap.size) := ⟨hbA, bA.lt⟩
      clear bA hbA hrow hxl hx hlt h0
      obtain ⟨s1, Gs1⟩ : ∃ X, S xs' = X := ⟨_, rfl⟩
      obtain ⟨t1, Gt1⟩ : ∃ X, S xv = X := ⟨_, rfl⟩
      simp only [Gs1, Gt1] at c0 c1 hwA hK
      have Hs1 : Hid (S xs' = s1) := Gs1
      have Ht1 : Hid (S xv = t1) := Gt1
      clear Gs1 Gt1
      go_upto_region 6 with fail
      clear c0 c1 c2 hwA
      go_upto_region 7 with (go_at_call 13; refine hT.out.mono ?_; rintro e w1 ⟨vg, vc, rfl, hM, hb1⟩; have f5 := ((hK.out w1 hb1).cell 2 (by simp)).1; have y5 := ((hK.out w1 hb1).cell 2 (by simp)).2)
      have b1 := hK.out w1 hb1
      obtain ⟨hbA, hsz⟩ := KA.out
      clear hT e5 f5 y5 hK KA
      obtain ⟨w3, hw3⟩ : ∃ W, w1.setCell ⟨wr.heap.size, 2, none⟩ (.slice (some ⟨vg, 0, none⟩) xl.length vc) = W := ⟨_, rfl⟩
      rw [hw3]
      have b3 : Box w3 wr.heap.size 76 #[.string s1, .string t1, .slice (some ⟨vg, 0, none⟩) xl.length vc] := by rw [← hw3]; exact b1.set 2 _
      have keep3 : ∀ k, k < wr.heap.size → w3.heap[k]? = wr.heap[k]? := fun k hk => by
        rw [← hw3, Below.heap_setCell _ _ _ _ (by show k ≠ wr.heap.size; omega), hb1.block k (by omega), hbA.block k hk]
      have hB3 : Below wr.heap.size wr w3 := by rw [← hw3]; exact (hbA.trans (hb1.mono (by omega))).setCell (p := ⟨wr.heap.size, 2, none⟩) (Nat.le_refl _) _
      have hB0 : w.heap.size ≤ wr.heap.size := hI.out.2.2.size
      have hM3 : Mkd w3 w.heap.size vg vc xl := (hM.of (by rw [← hw3]; exact Below.heap_setCell _ _ _ _ (by show vg ≠ wr.heap.size; have := hM.lt.1; omega))).base (by omega)
      have hO3 : OwnM 76 3 tV tT w3 w.heap.size (.slice ma ys.length mc) ys := hI.out.1.keep keep3
      obtain ⟨y, hy⟩ : ∃ y : Att, y = ⟨xs', xv, some ⟨vg, 0, none⟩, vc, xl⟩ := ⟨_, rfl⟩
      obtain ⟨w4, hw4⟩ : ∃ W, w3.alloc (.cells #[.string s1, .string t1, .slice (some ⟨vg, 0, none⟩) xl.length vc] 76) = W := ⟨_, rfl⟩
      have b4 : Box w4 w3.heap.size 76 (tV y).toArray := by rw [hy, ← hw4]; unfold tV; rw [Hs1.out, Ht1.out]; exact Box.new _ _ _
      have hb4 : Below w3.heap.size w3 w4 := by rw [← hw4]; exact (Below.refl _ _).alloc (Nat.le_refl _) _
      have hO4 : OwnM 76 3 tV tT w4 w.heap.size (.slice ma ys.length mc) ys := hO3.keep (fun b hb => hb4.block b hb)
      have hM4 : ∃ g, (tT y).1 = some ⟨g, 0, none⟩ ∧ Mkd w4 w.heap.size g (tT y).2.1 (tT y).2.2 := by rw [hy]; exact ⟨vg, rfl, hM3.below hb4⟩
      have hB4 : Below w.heap.size w w4 := hI.out.2.2.trans ((hB3.mono hB0).trans (hb4.mono (by have := hB3.size; omega)))
      have hnp : Hid ((ys ++ [y]).map tP = (xs.take (i + 1)).map tP) := by
        unfold Hid
        rw [List.map_append, hI.out.2.1, htk.out, List.map_append, hy]
        rfl
      have hs4 : w.heap.size ≤ w4.heap.size := hB4.size
      have hyn : (ys.length + 1) * 56 ≤ 140737488355328 := by have := hyl.out; omega
      obtain ⟨g0, g1, g2⟩ : w3.cell? ⟨wr.heap.size, 0, none⟩ = some (.string s1) ∧ w3.cell? ⟨wr.heap.size, 1, none⟩ = some (.string t1) ∧ w3.cell? ⟨wr.heap.size, 2, none⟩ = some (.slice (some ⟨vg, 0, none⟩) xl.length vc) := ⟨(b3.cell 0 (by simp)).1, (b3.cell 1 (by simp)).1, (b3.cell 2 (by simp)).1⟩
      clear hB0 hB3 keep3 b3 hb1 hsz b1 hbA htk hy hw3 hO3 hM3 hb4 hM
      go_wp2_with (at_builtin; refine push_gen kd_att _ rfl _ _ rfl w.heap.size _ ys y w3.heap.size rfl rfl hO4.1 b4 hs4 hyn (by decide) ?_; intro g' cap' w5 hO5 hk5 hb5)
      have hfin : Hid (OwnM 76 3 tV tT w5 w.heap.size (.slice (some ⟨g', 0, none⟩) (ys.length + 1) cap') (ys ++ [y]) ∧ (ys ++ [y]).map tP = (xs.take (i + 1)).map tP ∧ Below w.heap.size w w5) :=
        ⟨ownM_push (by decide) hO4 hM4 hO5 hk5, hnp.out, hB4.trans hb5⟩
      clear hO5 hk5 hb5 hO4 hM4 hB4 b4 hs4 hyn hw4 g0 g1 g2 hI
      go_wp2_with fail
      go_roundw
      case rel => exact ⟨i + 1, ys ++ [y], hlt'.out, by simp, hfin⟩
      case measure => have := hlt'.out; simp [intOf]; omega
    · have hie : i = xs.length := by omega
      subst hie
      rw [List.take_length] at hI
      have k1 : ¬ (xs.length : Int) < (xs.length : Int) := by omega
      obtain ⟨w4, hw4⟩ : ∃ W, wr.alloc (.cells #[.string ⟨#[115, 112, 97, 114, 101]⟩, .string ⟨#[]⟩, .slice none 0 0] 76) = W := ⟨_, rfl⟩
      have b4 : Box w4 wr.heap.size 76 (tV zAt).toArray := by rw [← hw4]; exact Box.new _ _ _
      have hb4 : Below wr.heap.size wr w4 := by rw [← hw4]; exact (Below.refl _ _).alloc (Nat.le_refl _) _
      have hO4 : OwnM 76 3 tV tT w4 w.heap.size (.slice ma ys.length mc) ys := hI.out.1.keep (fun b hb => hb4.block b hb)
      have hB4 : Below w.heap.size w w4 := hI.out.2.2.trans (hb4.mono hI.out.2.2.size)
      have hs4 : w.heap.size ≤ w4.heap.size := hB4.size
      have hyn : (ys.length + 1) * 56 ≤ 140737488355328 := by have := hyl.out; omega
      have n0 : (0 : Int) ≤ (xs.length : Int) := Int.natCast_nonneg _
      have hP : Hid (ys.map tP = xs.map tP) := hI.out.2.1
      clear hI
      go_wp2_with (at_builtin; refine push_gen kd_att _ rfl _ _ rfl w.heap.size _ ys zAt wr.heap.size rfl rfl hO4.1 b4 hs4 hyn (by decide) ?_; intro g' cap' w5 hO5 hk5 hb5; have hG := mkB_of (by decide) tV_len hO4 hO5 hk5; have n1 : xs.length ≤ cap' := by have := (hG _ (Agr.refl _ _)).2.1; have := hyl.out; omega)
      go_ret
      exact ⟨⟨g', cap', rfl, ys, hG, hP.out⟩, hB4.trans hb5⟩
end Go.Proofs.YtembeinglnojkaaDoor
