import Derived.Test.YtofghgggllfafaaDoorFlOwn
import Derived.Lib.AppendZeros
namespace Go.Proofs.YtofghgggllfafaaDoor
open Go.RowKit
set_option linter.unusedVariables false

theorem ownF_nil (W : World) (B : Nat) : OwnF W B (.slice none 0 0) [] := ⟨ownN_nil _ _, fun y hy => by cases hy⟩
theorem OwnF.slice {w : World} {B : Nat} {v : Value} {L : List Nod} (h : OwnF w B v L) : ∃ a c, v = .slice a L.length c ∧ L.length ≤ c := owns_slice h.1
/-- One node more, whose pieces are of the call's own. -/
theorem ownF_push {w w' : World} {B g cap : Nat} {v : Value} {L : List Nod} {y : Nod} (h : OwnF w B v L) (hy : OwnS w B (.slice y.a y.l.length y.n) y.l) (h1 : OwnN w' B (.slice (some ⟨g, 0, none⟩) (L.length + 1) cap) (L ++ [y])) (h2 : ∀ b, b < w.heap.size → v.ownBlock ≠ some b → w'.heap[b]? = w.heap[b]?) : OwnF w' B (.slice (some ⟨g, 0, none⟩) (L.length + 1) cap) (L ++ [y]) := by
  have key : ∀ z : Nod, OwnS w B (.slice z.a z.l.length z.n) z.l → OwnS w' B (.slice z.a z.l.length z.n) z.l := fun z hz =>
    owns_same (show w.ownsRow B 9 1 _ _ _ from hz) (fun k hk => h2 k (World.ownsRow.lt (show w.ownsRow B 9 1 _ _ _ from hz) k hk).2 (fun hh => owns_apart (show w.ownsRow B 38 9 _ _ _ from h.1) (show w.ownsRow B 9 1 _ _ _ from hz) (by decide) hh hk))
  refine ⟨h1, fun z hz => ?_⟩
  rcases List.mem_append.1 hz with hz | hz
  · exact key z (h.2 z hz)
  · have : z = y := by simpa using hz
    subst this
    exact key _ hy

/-- One node appended, at an operation with a guard that says yes. -/
theorem push_nod_if (w : World) {ops : Array Oper} {rest : List Oper} {o : Oper} {a : Act} {Q : Exit → Act → World → Prop} (hw : Region.wanted o (yielded ops a.tmps) = true) (s x : Operand)
    (ho : o.op = .call { callee := .builtin .append, args := #[s, x], argTypes := #[23, 23] }) (B : Nat) (v : Value) (l : List Nod) (p : Nod) (g : Nat)
    (hs : a.eval s = v) (hx : a.eval x = .slice (some ⟨g, 0, none⟩) 1 1) (hown : OwnN w B v l) (hg : Box w g 38 (nA p)) (hB : B ≤ w.heap.size) (hl : l.length ≤ 2097152)
    (h : ∀ g' cap w', OwnN w' B (.slice (some ⟨g', 0, none⟩) (l.length + 1) cap) (l ++ [p]) → (∀ b, b < w.heap.size → v.ownBlock ≠ some b → w'.heap[b]? = w.heap[b]?) → Below B w w' → wpList Tryd.prog ops Q rest (a.put o.dst (.slice (some ⟨g', 0, none⟩) (l.length + 1) cap)) w') :
    wpList Tryd.prog ops Q (o :: rest) a w := by
  obtain ⟨i0, hi, hz0, hz1, hz2⟩ := info_parts info_nod
  refine wpList_step fun K hK => ?_
  rw [if_pos hw]
  refine wp_append_lies w s x 23 ho B 38 i0 _ 9 128 Tryd.underlying23 hi hz0 hz1 hz2 rfl (by decide) v l.length (nv l) hs hown ⟨g, 0, none⟩ 1 1 (nV p) hx rfl (World.news_of_block hg) (nV_one p) (by decide) (by unfold maxLen; omega) (by omega) hB w.heap.size rfl ?_
  intro g' cap w' h1 h2 h3 _
  refine hK _ _ (h g' cap w' ?_ (fun b hb hne => h2.block b hb (fun hh => hne hh.symm)) ?_)
  · unfold OwnN
    rw [nv_snoc, List.length_append]
    exact h1
  · refine (Below.refl _ _).grown h2 hB ?_
    intro k hk
    exact (hown.lt _ hk).1

set_option maxRecDepth 100000 in
set_option maxHeartbeats 4000000 in
theorem copied_any (xs : List Nod) (a : Option Addr) (c : Nat) (w : World) (hn : xs.length ≤ 1048576) (hl : ∀ x ∈ xs, x.l.length ≤ 1048576) (h : FRow w a xs) :
    Calls Tryd.prog 4 #[.slice a xs.length c] w fun e w' => (∃ v ys, e = .returned v ∧ OwnF w' w.heap.size v ys ∧ ys.map np = xs.map np) ∧ Below w.heap.size w w' := by
  have h' : Hid (FRow w a xs) := h
  have hl' : Hid (∀ x ∈ xs, x.l.length ≤ 1048576) := hl
  clear h hl
  have hI0 : Hid (OwnF w w.heap.size (.slice none 0 0) [] ∧ ([] : List Nod).map np = (xs.take 0).map np ∧ Below w.heap.size w w) := ⟨ownF_nil _ _, by simp, Below.refl _ _⟩
  go_enter Tryd.func4, Tryd.ntmps4
  go_wp2_with fail
  go_loopw [3, 4] (fun mv iv wr => ∃ (i : Nat) (ys : List Nod), i ≤ xs.length ∧ iv = .int .i64 (i : Int) ∧ Hid (OwnF wr w.heap.size mv ys ∧ ys.map np = (xs.take i).map np ∧ Below w.heap.size w wr)) (fun _ iv _ => xs.length - (intOf iv).toNat)
  case atStart => exact ⟨0, [], Nat.zero_le _, rfl, hI0⟩
  case round =>
    obtain ⟨i, ys, hi, rfl, hI⟩ := hrel
    clear hI0
    have hyl : Hid (ys.length = i) := by
      have := congrArg List.length hI.out.2.1
      simp at this
      unfold Hid
      omega
    obtain ⟨ma, mc, hmv, _⟩ := hI.out.1.slice
    subst hmv
    by_cases hlt : i < xs.length
    · obtain ⟨b, off, rfl, c0, c1, c2, c3, c4, c5, c6, c7, c8⟩ := (h'.out.below hI.out.2.2).at i hlt
      have hrow := ((h'.out.below hI.out.2.2) i hlt).2
      have i0 : (0 : Int) ≤ (i : Int) := Int.natCast_nonneg _
      have i1 : (i : Int) < (xs.length : Int) := Int.ofNat_lt.2 hlt
      have htk : Hid (xs.take (i + 1) = xs.take i ++ [xs[i]]) := List.take_succ_eq_append_getElem hlt
      have hxl : xs[i].l.length ≤ 1048576 := hl'.out _ (List.getElem_mem hlt)
      obtain ⟨⟨xd, xo, xs', xv, xi, xa, xn, xl, xf, xr, xb⟩, hx⟩ : ∃ x, xs[i] = x := ⟨_, rfl⟩
      rw [hx] at c0 c1 c2 c3 c4 c5 c6 c7 c8 hrow htk hxl
      dsimp only at c0 c1 c2 c3 c4 c5 c6 c7 c8 hrow hxl
      have hlt' : Hid (i < xs.length) := hlt
      obtain ⟨wA, hwA⟩ : ∃ W, wr.alloc (.cells #[.int .i64 xd, .int .i64 xo, .string (S xs'), .string (S xv), .string (S xi), .slice xa xl.length xn, .string (S xf), .string (S xr), .bool xb] 38) = W := ⟨_, rfl⟩
      have bA : Box wA wr.heap.size 38 #[.int .i64 xd, .int .i64 xo, .string (S xs'), .string (S xv), .string (S xi), .slice xa xl.length xn, .string (S xf), .string (S xr), .bool xb] := by rw [← hwA]; exact Box.new _ _ _
      have hbA : Below wr.heap.size wr wA := by rw [← hwA]; exact (Below.refl _ _).alloc (Nat.le_refl _) _
      obtain ⟨wE, hwE⟩ : ∃ W, wA.alloc (.cells #[] 9) = W := ⟨_, rfl⟩
      have hbE : Below wA.heap.size wA wE := by rw [← hwE]; exact (Below.refl _ _).alloc (Nat.le_refl _) _
      have hoE : OwnS wE wA.heap.size (.slice (some ⟨wA.heap.size, 0, none⟩) 0 0) [] := by rw [← hwE]; exact own_empty wA
      obtain ⟨v1, w1, hr1, ho1, hb1⟩ := append_row wE wA.heap.size _ [] xl xa xl.length xn hoE (hrow.below (hbA.trans (hbE.mono hbA.size))) rfl hbE.size (by simp; omega)
      rw [List.nil_append] at ho1
      obtain ⟨va, vc, rfl, _⟩ := owns_slice (show World.ownsRow _ _ 9 1 _ _ _ from ho1)
      have hb1' : Below wA.heap.size wA w1 := hbE.trans hb1
      have e5 : wE.cell? ⟨wr.heap.size, 5, none⟩ = some (.slice xa xl.length xn) := ((bA.below hbE).cell 5 (by simp)).1
      have b1 := bA.below hb1'
      have f5 : w1.cell? ⟨wr.heap.size, 5, none⟩ = some (.slice xa xl.length xn) := (b1.cell 5 (by simp)).1
      have y5 : w1.frozen? ⟨wr.heap.size, 5, none⟩ = false := (b1.cell 5 (by simp)).2
      have hsz : wr.heap.size < wA.heap.size := bA.lt
      obtain ⟨w3, hw3⟩ : ∃ W, w1.setCell ⟨wr.heap.size, 5, none⟩ (.slice va xl.length vc) = W := ⟨_, rfl⟩
      have b3 : Box w3 wr.heap.size 38 #[.int .i64 xd, .int .i64 xo, .string (S xs'), .string (S xv), .string (S xi), .slice va xl.length vc, .string (S xf), .string (S xr), .bool xb] := by rw [← hw3]; exact b1.set 5 _
      have keep3 : ∀ k, k < wr.heap.size → w3.heap[k]? = wr.heap[k]? := fun k hk => by
        rw [← hw3, Below.heap_setCell _ _ _ _ (by show k ≠ wr.heap.size; omega), hb1'.block k (by omega), hbA.block k hk]
      have hs3 : wr.heap.size ≤ w3.heap.size := by rw [← hw3, World.size_setCell]; have := hb1'.size; omega
      have hB3 : Below wr.heap.size wr w3 := by rw [← hw3]; exact (hbA.trans (hb1'.mono (by omega))).setCell (p := ⟨wr.heap.size, 5, none⟩) (Nat.le_refl _) _
      have hB0 : w.heap.size ≤ wr.heap.size := hI.out.2.2.size
      have hM3 : OwnS w3 w.heap.size (.slice va xl.length vc) xl := by
        have h3 : OwnS w3 wA.heap.size (.slice va xl.length vc) xl := owns_same (show World.ownsRow _ _ 9 1 _ _ _ from ho1) (fun k hk => by
          have hk' := (World.ownsRow.lt (show w1.ownsRow wA.heap.size 9 1 _ _ _ from ho1) k hk).1
          rw [← hw3]
          exact Below.heap_setCell _ _ _ _ (by show k ≠ wr.heap.size; omega))
        exact owns_base (show World.ownsRow _ _ 9 1 _ _ _ from h3) (by omega)
      have hO3 : OwnF w3 w.heap.size (.slice ma ys.length mc) ys := ⟨owns_same (show wr.ownsRow w.heap.size 38 9 _ _ _ from hI.out.1.1) (fun k hk => keep3 k (World.ownsRow.lt (show wr.ownsRow w.heap.size 38 9 _ _ _ from hI.out.1.1) k hk).2), fun z hz => owns_same (show wr.ownsRow w.heap.size 9 1 _ _ _ from hI.out.1.2 z hz) (fun k hk => keep3 k (World.ownsRow.lt (show wr.ownsRow w.heap.size 9 1 _ _ _ from hI.out.1.2 z hz) k hk).2)⟩
      obtain ⟨y, hy⟩ : ∃ y : Nod, y = ⟨xd, xo, xs', xv, xi, va, vc, xl, xf, xr, xb⟩ := ⟨_, rfl⟩
      obtain ⟨w4, hw4⟩ : ∃ W, w3.alloc (.cells #[.int .i64 xd, .int .i64 xo, .string (S xs'), .string (S xv), .string (S xi), .slice va xl.length vc, .string (S xf), .string (S xr), .bool xb] 38) = W := ⟨_, rfl⟩
      have b4 : Box w4 w3.heap.size 38 (nA y) := by rw [hy, ← hw4]; exact Box.new _ _ _
      have hb4 : Below w3.heap.size w3 w4 := by rw [← hw4]; exact (Below.refl _ _).alloc (Nat.le_refl _) _
      have hO4 : OwnF w4 w.heap.size (.slice ma ys.length mc) ys := hO3.below hb4
      have hM4 : OwnS w4 w.heap.size (.slice y.a y.l.length y.n) y.l := by rw [hy]; exact ownS_below hM3 hb4
      have hB4 : Below w.heap.size w w4 := hI.out.2.2.trans ((hB3.mono hB0).trans (hb4.mono (by omega)))
      have hnp : Hid ((ys ++ [y]).map np = (xs.take (i + 1)).map np) := by
        unfold Hid
        rw [List.map_append, hI.out.2.1, htk.out, List.map_append, hy]
        rfl
      have hs4 : w.heap.size ≤ w4.heap.size := hB4.size
      have hyn : ys.length ≤ 2097152 := by have := hyl.out; omega
      obtain ⟨g0, g1, g2, g3, g4, g5, g6, g7, g8⟩ : w3.cell? ⟨wr.heap.size, 0, none⟩ = some (.int .i64 xd) ∧ w3.cell? ⟨wr.heap.size, 1, none⟩ = some (.int .i64 xo) ∧ w3.cell? ⟨wr.heap.size, 2, none⟩ = some (.string (S xs')) ∧ w3.cell? ⟨wr.heap.size, 3, none⟩ = some (.string (S xv)) ∧ w3.cell? ⟨wr.heap.size, 4, none⟩ = some (.string (S xi)) ∧ w3.cell? ⟨wr.heap.size, 5, none⟩ = some (.slice va xl.length vc) ∧ w3.cell? ⟨wr.heap.size, 6, none⟩ = some (.string (S xf)) ∧ w3.cell? ⟨wr.heap.size, 7, none⟩ = some (.string (S xr)) ∧ w3.cell? ⟨wr.heap.size, 8, none⟩ = some (.bool xb) := ⟨(b3.cell 0 (by simp)).1, (b3.cell 1 (by simp)).1, (b3.cell 2 (by simp)).1, (b3.cell 3 (by simp)).1, (b3.cell 4 (by simp)).1, (b3.cell 5 (by simp)).1, (b3.cell 6 (by simp)).1, (b3.cell 7 (by simp)).1, (b3.cell 8 (by simp)).1⟩
      have K4 : Hid (OwnF w4 w.heap.size (.slice ma ys.length mc) ys ∧ OwnS w4 w.heap.size (.slice y.a y.l.length y.n) y.l ∧ Below w.heap.size w w4 ∧ Box w4 w3.heap.size 38 (nA y) ∧ w.heap.size ≤ w4.heap.size ∧ ys.length ≤ 2097152) := ⟨hO4, hM4, hB4, b4, hs4, hyn⟩
      have KE : Hid (wA.alloc (.cells #[] 9) = wE) := hwE
      have K3 : Hid (w1.setCell ⟨wr.heap.size, 5, none⟩ (.slice va xl.length vc) = w3) := hw3
      have KA : Hid (w3.alloc (.cells #[.int .i64 xd, .int .i64 xo, .string (S xs'), .string (S xv), .string (S xi), .slice va xl.length vc, .string (S xf), .string (S xr), .bool xb] 38) = w4) := hw4
      clear hO4 hM4 hB4 b4 hs4 hyn hb4 hO3 hM3 hB0 hB3 hs3 keep3 b3 hsz b1 hb1' hb1 ho1 hoE hbE hbA bA hrow hxl hx hlt htk hy hwE hw3 hw4
      generalize S xs' = s1 at *
      generalize S xv = t1 at *
      generalize S xi = p1 at *
      generalize S xf = q1 at *
      generalize S xr = r1 at *
      go_upto_region 6 with fail
      clear c0 c1 c2 c3 c4 c5 c6 c7 c8 hwA
      have hwE := KE.out
      go_upto_region 7 with (at_builtin; refine Lib.wpList_append_run _ rfl _ _ _ _ rfl _ _ rfl rfl _ _ hr1 ?_)
      have hw3 := K3.out
      rw [hw3]
      clear hw3 hwE hr1 e5 f5 y5
      have hw4 := KA.out
      obtain ⟨hO4, hM4, hB4, b4, hs4, hyn⟩ := K4.out
      go_wp2_with (at_builtin; refine push_nod _ rfl _ _ rfl w.heap.size _ ys y w3.heap.size rfl rfl hO4.1 b4 hs4 hyn ?_; intro g' cap' w5 hO5 hk5 hb5)
      have hfin : Hid (OwnF w5 w.heap.size (.slice (some ⟨g', 0, none⟩) (ys.length + 1) cap') (ys ++ [y]) ∧ (ys ++ [y]).map np = (xs.take (i + 1)).map np ∧ Below w.heap.size w w5) :=
        ⟨ownF_push hO4 hM4 hO5 hk5, hnp.out, hB4.trans hb5⟩
      clear hO5 hk5 hb5 hO4 hM4 hB4 b4 hs4 hyn hw4 g0 g1 g2 g3 g4 g5 g6 g7 g8 hI
      go_wp2_with fail
      go_roundw
      case rel => exact ⟨i + 1, ys ++ [y], hlt'.out, by simp, hfin⟩
      case measure => have := hlt'.out; simp [intOf]; omega
    · have hie : i = xs.length := by omega
      subst hie
      rw [List.take_length] at hI
      have k1 : ¬ (xs.length : Int) < (xs.length : Int) := by omega
      go_wp2_with fail
      go_ret
      exact ⟨⟨_, rfl, ys, hI.out.1, hI.out.2.1⟩, hI.out.2.2⟩
end Go.Proofs.YtofghgggllfafaaDoor
