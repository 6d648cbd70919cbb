import Derived.Test.YtdeeegocjgikoaaDoorEnTxt
namespace Go.Proofs.YtdeeegocjgikoaaDoor
open Go.RowKit
set_option linter.unusedVariables false

/-- What an attribute says, wherever its values lie. -/
def pl (x : Atr) : List UInt8 × List UInt8 × List (List UInt8) := (x.d, x.c, x.l)
/-- Attributes whose values lie marked. -/
def AllM (W : World) (B : Nat) (ys : List Atr) : Prop := ∀ y ∈ ys, ∃ g, y.a = some ⟨g, 0, none⟩ ∧ Mkd W B g y.n y.l
def sprA : Atr := ⟨spr, [], none, 0, []⟩
theorem AllM.of {W W' : World} {B : Nat} {ys : List Atr} (h : AllM W B ys) (e : ∀ g cap l, Mkd W B g cap l → W'.heap[g]? = W.heap[g]?) : AllM W' B ys := fun y hy => by
  obtain ⟨g, h1, h2⟩ := h y hy
  exact ⟨g, h1, h2.of (e _ _ _ h2)⟩
theorem AllM.below {W W' : World} {B : Nat} {ys : List Atr} (h : AllM W B ys) (hb : Below W.heap.size W W') : AllM W' B ys := h.of (fun g cap l hm => hb.block g hm.lt.2.1)
/-- A copy of attributes, with its marks. -/
def CopyA (W : World) (B g cap : Nat) (xs ys : List Atr) : Prop := OwnA W B (.slice (some ⟨g, 0, none⟩) (xs.length + 1) cap) (ys ++ [sprA]) ∧ AllM W B ys ∧ ys.map pl = xs.map pl
theorem CopyA.len {W : World} {B g cap : Nat} {xs ys : List Atr} (h : CopyA W B g cap xs ys) : ys.length = xs.length := by
  have := congrArg List.length h.2.2
  simpa using this
theorem CopyA.lt {W : World} {B g cap : Nat} {xs ys : List Atr} (h : CopyA W B g cap xs ys) : B ≤ g ∧ g < W.heap.size ∧ xs.length + 1 ≤ cap := by
  rcases owns_form (show W.ownsRow B 32 3 _ _ _ from h.1) with ⟨h1, _⟩ | ⟨g', cap', h1, h2, h3, h4⟩
  · cases h1
  · injection h1 with h1 h6 h5
    injection h1 with h1
    injection h1 with h1
    subst h1 h5
    rw [← h6] at h2
    exact ⟨h3, h4, h2⟩
theorem CopyA.below {W W' : World} {B g cap : Nat} {xs ys : List Atr} (h : CopyA W B g cap xs ys) (hb : Below W.heap.size W W') : CopyA W' B g cap xs ys :=
  ⟨owns_same (show W.ownsRow B 32 3 _ _ _ from h.1) (fun g' hg => by injection hg with hg; subst hg; exact hb.block _ h.lt.2.1), h.2.1.below hb, h.2.2⟩
theorem CopyA.row {W : World} {B g cap : Nat} {xs ys : List Atr} (h : CopyA W B g cap xs ys) : ARow W (some ⟨g, 0, none⟩) ys := fun i hi => by
  obtain ⟨h1, h2, h3⟩ := ownA_cells h.1 i (by rw [List.length_append]; omega)
  simp only [List.getElem_append_left hi] at h1 h2 h3
  obtain ⟨g', e, hm⟩ := h.2.1 ys[i] (List.getElem_mem hi)
  refine ⟨⟨g, 0, rfl, by simpa using h1, by simpa using h2, by simpa using h3⟩, ?_⟩
  rw [e]
  exact hm.row.front

set_option maxRecDepth 100000 in
set_option maxHeartbeats 2000000 in
theorem copyAttrs_any (xs : List Atr) (a : Option Addr) (c : Nat) (w : World) (hn : xs.length ≤ 1048576) (hl : ∀ x ∈ xs, x.l.length ≤ 1048576) (h : ARow w a xs) :
    Calls Tryd.prog 12 #[.slice a xs.length c] w fun e w' => (∃ g cap, e = .returned (.slice (some ⟨g, 0, none⟩) xs.length cap) ∧ ∃ ys, CopyA w' w.heap.size g cap xs ys) ∧ Below w.heap.size w w' := by
  have h' : Hid (ARow w a xs) := h
  have hl' : Hid (∀ x ∈ xs, x.l.length ≤ 1048576) := hl
  clear h hl
  have hI0 : Hid (OwnA w w.heap.size (.slice none 0 0) [] ∧ AllM w w.heap.size [] ∧ ([] : List Atr).map pl = (xs.take 0).map pl ∧ Below w.heap.size w w) := ⟨ownA_nil _ _, fun y hy => (by cases hy), by simp, Below.refl _ _⟩
  go_enter Tryd.func12, Tryd.ntmps12
  go_wp2_with fail
  go_loopw [3, 4] (fun mv iv wr => ∃ (i : Nat) (ys : List Atr), i ≤ xs.length ∧ iv = .int .i64 (i : Int) ∧ Hid (OwnA wr w.heap.size mv ys ∧ AllM wr w.heap.size ys ∧ ys.map pl = (xs.take i).map pl ∧ Below w.heap.size w wr)) (fun _ iv _ => xs.length - (intOf iv).toNat)
  case atStart => exact ⟨0, [], Nat.zero_le _, rfl, hI0⟩
  case round =>
    obtain ⟨i, ys, hi, rfl, hI⟩ := hrel
    clear hI0
    have hyl : Hid (ys.length = i) := by
      have := congrArg List.length hI.out.2.2.1
      simp at this
      unfold Hid
      omega
    obtain ⟨ma, mc, hmv, _⟩ := owns_slice (show wr.ownsRow w.heap.size 32 3 _ _ _ from hI.out.1)
    subst hmv
    by_cases hlt : i < xs.length
    · obtain ⟨⟨b, off, rfl, c0, c1, c2⟩, hrow⟩ := (h'.out.below hI.out.2.2.2) i hlt
      have i0 : (0 : Int) ≤ (i : Int) := Int.natCast_nonneg _
      have i1 : (i : Int) < (xs.length : Int) := Int.ofNat_lt.2 hlt
      have htk : Hid (xs.take (i + 1) = xs.take i ++ [xs[i]]) := List.take_succ_eq_append_getElem hlt
      have hxl : xs[i].l.length ≤ 1048576 := hl'.out _ (List.getElem_mem hlt)
      obtain ⟨x, hx⟩ : ∃ x, xs[i] = x := ⟨_, rfl⟩
      rw [hx] at c0 c1 c2 hrow htk hxl
      have hlt' : Hid (i < xs.length) := hlt
      obtain ⟨wA, hwA⟩ : ∃ W, wr.alloc (.cells #[.string (S x.d), .string (S x.c), .slice x.a x.l.length x.n] 32) = W := ⟨_, rfl⟩
      have bA : Box wA wr.heap.size 32 #[.string (S x.d), .string (S x.c), .slice x.a x.l.length x.n] := by rw [← hwA]; exact Box.new _ _ _
      have hbA : Below wr.heap.size wr wA := by rw [← hwA]; exact (Below.refl _ _).alloc (Nat.le_refl _) _
      have hR := roomy_any x.l x.a x.n wA hxl (hrow.below hbA)
      have hR' : Hid (Calls Tryd.prog 20 #[.slice x.a x.l.length x.n] wA fun e w' => ∃ g cap, e = .returned (.slice (some ⟨g, 0, none⟩) x.l.length cap) ∧ Mkd w' wA.heap.size g cap x.l ∧ Below wA.heap.size wA w') := hR
      clear hR hrow hxl hx hlt
      obtain ⟨⟨e2, z2⟩⟩ : Nonempty (PProd (wA.cell? ⟨wr.heap.size, 2, none⟩ = some (.slice x.a x.l.length x.n)) (wA.frozen? ⟨wr.heap.size, 2, none⟩ = false)) := ⟨⟨(bA.cell 2 (by simp)).1, (bA.cell 2 (by simp)).2⟩⟩
      go_upto_region 6 with fail
      clear c0 c1 c2 hwA
      go_upto_region 7 with (go_at_call 20; refine hR'.out.mono ?_; rintro e w2 ⟨g, cap, rfl, hM, hb2⟩; have b2 := bA.below hb2; have f2 : w2.cell? ⟨wr.heap.size, 2, none⟩ = some (.slice x.a x.l.length x.n) := (b2.cell 2 (by simp)).1; have y2 : w2.frozen? ⟨wr.heap.size, 2, none⟩ = false := (b2.cell 2 (by simp)).2)
      obtain ⟨w3, hw3⟩ : ∃ W, w2.setCell ⟨wr.heap.size, 2, none⟩ (.slice (some ⟨g, 0, none⟩) x.l.length cap) = W := ⟨_, rfl⟩
      rw [hw3]
      have b3 : Box w3 wr.heap.size 32 #[.string (S x.d), .string (S x.c), .slice (some ⟨g, 0, none⟩) x.l.length cap] := by rw [← hw3]; exact b2.set 2 _
      have hsz : wr.heap.size < wA.heap.size := bA.lt
      have keep3 : ∀ k, k < wr.heap.size → w3.heap[k]? = wr.heap[k]? := fun k hk => by
        rw [← hw3, Below.heap_setCell _ _ _ _ (by show k ≠ wr.heap.size; omega), hb2.block k (by omega), hbA.block k hk]
      have hs3 : wr.heap.size ≤ w3.heap.size := by rw [← hw3, World.size_setCell]; have := hb2.size; omega
      have hB3 : Below wr.heap.size wr w3 := by rw [← hw3]; exact (hbA.trans (hb2.mono (by omega))).setCell (p := ⟨wr.heap.size, 2, none⟩) (Nat.le_refl _) _
      have hM3 : Mkd w3 w.heap.size g cap x.l := by
        have := hM.lt.1
        rw [← hw3]
        exact (hM.of (Below.heap_setCell _ _ _ _ (by show g ≠ wr.heap.size; omega))).base (by have := hI.out.2.2.2.size; omega)
      have hgn : wA.heap.size ≤ g := hM.lt.1
      clear hw3 b2 f2 y2 hM hb2
      obtain ⟨g0, _⟩ := b3.cell 0 (by simp)
      obtain ⟨g1, _⟩ := b3.cell 1 (by simp)
      obtain ⟨g2, _⟩ := b3.cell 2 (by simp)
      simp only [List.getElem_toArray, List.getElem_cons_zero, List.getElem_cons_succ] at g0 g1 g2
      have hO3 : OwnA w3 w.heap.size (.slice ma ys.length mc) ys := owns_same (show wr.ownsRow w.heap.size 32 3 _ _ _ from hI.out.1) (fun k hk => keep3 k (World.ownsRow.lt (show wr.ownsRow w.heap.size 32 3 _ _ _ from hI.out.1) k hk).2)
      have hA3 : AllM w3 w.heap.size ys := hI.out.2.1.of (fun k _ _ hm => keep3 k hm.lt.2.1)
      have hB0 : w.heap.size ≤ wr.heap.size := hI.out.2.2.2.size
      obtain ⟨y, hy⟩ : ∃ y : Atr, y = ⟨x.d, x.c, some ⟨g, 0, none⟩, cap, x.l⟩ := ⟨_, rfl⟩
      have b4 : Box (w3.alloc (.cells #[.string (S x.d), .string (S x.c), .slice (some ⟨g, 0, none⟩) x.l.length cap] 32)) w3.heap.size 32 #[.string (S y.d), .string (S y.c), .slice y.a y.l.length y.n] := by rw [hy]; exact Box.new _ _ _
      go_wp2_with (at_builtin; refine push_attr _ rfl _ _ rfl w.heap.size _ ys y w3.heap.size rfl rfl (World.ownsRow.alloc hO3 _) b4 (by rw [World.size_alloc]; omega) (by have := hyl.out; omega) ?_; intro g' cap' w5 hO5 hk5 hb5)
      have hfin : Hid (OwnA w5 w.heap.size (.slice (some ⟨g', 0, none⟩) (ys.length + 1) cap') (ys ++ [y]) ∧ AllM w5 w.heap.size (ys ++ [y]) ∧ (ys ++ [y]).map pl = (xs.take (i + 1)).map pl ∧ Below w.heap.size w w5) := by
        have hO4 : OwnA (w3.alloc (.cells #[.string (S x.d), .string (S x.c), .slice (some ⟨g, 0, none⟩) x.l.length cap] 32)) w.heap.size (.slice ma ys.length mc) ys := World.ownsRow.alloc hO3 _
        have hA4 : AllM w3 w.heap.size (ys ++ [y]) := fun z hz => by
          rcases List.mem_append.1 hz with hz | hz
          · exact hA3 z hz
          · have : z = y := by simpa using hz
            subst this
            subst hy
            exact ⟨g, rfl, hM3⟩
        refine ⟨hO5, (hA4.below ((Below.refl _ _).alloc (Nat.le_refl _) _)).of (fun k cp l hm => hk5 k hm.lt.2.1 (fun hh => ?_)), ?_, ?_⟩
        · exact owns_apart (show World.ownsRow _ _ 32 3 _ _ _ from hO4) (show World.ownsRow _ _ 9 1 _ _ _ from hm) (by decide) hh rfl
        · rw [List.map_append, hI.out.2.2.1, htk.out, List.map_append, hy]
          rfl
        · exact hI.out.2.2.2.trans ((hB3.mono hB0).trans (((Below.refl _ _).alloc (by omega) _).trans hb5))
      clear hO5 hk5 hb5 b4 hy hA3 hO3 g0 g1 g2 hM3 hB3 keep3 b3 hI
      go_wp2_with fail
      go_roundw
      case rel => exact ⟨i + 1, ys ++ [y], hlt'.out, by simp, hfin⟩
      case measure => have := hlt'.out; simp [intOf]; omega
    · have hie : i = xs.length := by omega
      subst hie
      rw [List.take_length] at hI
      have k1 : ¬ (xs.length : Int) < (xs.length : Int) := by omega
      have hB0 : w.heap.size ≤ wr.heap.size := hI.out.2.2.2.size
      have b4 : Box (wr.alloc (.cells #[.string ⟨#[115, 112, 97, 114, 101, 32, 114, 111, 111, 109]⟩, .string ⟨#[]⟩, .slice none 0 0] 32)) wr.heap.size 32 #[.string (S sprA.d), .string (S sprA.c), .slice sprA.a sprA.l.length sprA.n] := Box.new _ _ _
      have hyl' := hyl.out
      have n0 : (0 : Int) ≤ (xs.length : Int) := Int.natCast_nonneg _
      have hcap : ∀ g' cap' w5, OwnA w5 w.heap.size (.slice (some ⟨g', 0, none⟩) (ys.length + 1) cap') (ys ++ [sprA]) → xs.length ≤ cap' ∧ Hid (OwnA w5 w.heap.size (.slice (some ⟨g', 0, none⟩) (xs.length + 1) cap') (ys ++ [sprA])) := fun g' cap' w5 hO5 => by
        rw [hyl'] at hO5
        have := owns_cap (show World.ownsRow _ _ 32 3 _ _ _ from hO5)
        exact ⟨by omega, hO5⟩
      have hO4 := World.ownsRow.alloc (show wr.ownsRow w.heap.size 32 3 (.slice ma ys.length mc) ys.length (av ys) from hI.out.1) (.cells #[.string ⟨#[115, 112, 97, 114, 101, 32, 114, 111, 111, 109]⟩, .string ⟨#[]⟩, .slice none 0 0] 32)
      have hB1 : w.heap.size ≤ (wr.alloc (.cells #[.string ⟨#[115, 112, 97, 114, 101, 32, 114, 111, 111, 109]⟩, .string ⟨#[]⟩, .slice none 0 0] 32)).heap.size := by rw [World.size_alloc]; omega
      have hyn : ys.length ≤ 2097152 := by omega
      go_wp2_with (at_builtin; refine push_attr _ rfl _ _ rfl w.heap.size _ ys sprA wr.heap.size rfl rfl hO4 b4 hB1 hyn ?_; intro g' cap' w5 hO5 hk5 hb5; obtain ⟨hcp, hO6⟩ := hcap _ _ _ hO5; clear hO5 hcap)
      go_ret
      refine ⟨⟨g', cap', rfl, ys, hO6.out, (hI.out.2.1.below ((Below.refl _ _).alloc (Nat.le_refl _) _)).of (fun k cp l hm => hk5 k hm.lt.2.1 (fun hh => ?_)), hI.out.2.2.1⟩, ?_⟩
      · exact owns_apart (show World.ownsRow _ _ 32 3 _ _ _ from World.ownsRow.alloc hI.out.1 _) (show World.ownsRow _ _ 9 1 _ _ _ from hm) (by decide) hh rfl
      · exact hI.out.2.2.2.trans (((Below.refl _ _).alloc (by omega) _).trans hb5)
end Go.Proofs.YtdeeegocjgikoaaDoor
