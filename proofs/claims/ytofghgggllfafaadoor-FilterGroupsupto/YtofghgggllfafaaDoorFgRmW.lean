import Derived.Test.YtofghgggllfafaaDoorFgRm
namespace Go.Proofs.YtofghgggllfafaaDoor
open Go.RowKit
set_option linter.unusedVariables false

theorem np_l {x y : Nod} (h : np x = np y) : x.l = y.l := by simp only [np, Prod.mk.injEq] at h; exact h.2.2.2.2.2.1
theorem np_at' {xs ys : List Nod} (h : ys.map np = xs.map np) {i : Nat} (hx : i < xs.length) (hy : i < ys.length) : np ys[i] = np xs[i] := by
  have h3 : (ys.map np)[i]? = (xs.map np)[i]? := by rw [h]
  simpa [hx, hy] using h3
theorem np_set {zs xs : List Nod} {i : Nat} (hi : i < zs.length) (h : zs.map np = xs.map np) (y : Nod) (hy : np y = np zs[i]) : (zs.set i y).map np = xs.map np := by
  rw [List.map_set, hy, ← h]
  apply List.ext_getElem?
  intro k
  by_cases e : i = k
  · subst e; simp [hi]
  · rw [List.getElem?_set_ne e]

set_option maxRecDepth 100000 in
set_option maxHeartbeats 4000000 in
theorem roomyF_any (xs : List Nod) (a : Option Addr) (c : Nat) (w : World) (hn : xs.length ≤ 1048576) (hl : ∀ x ∈ xs, x.l.length ≤ 1048576) (h : FRow w a xs) :
    Calls Tryd.prog 5 #[.slice a xs.length c] w fun e w' => (∃ g cap ys, e = .returned (.slice (some ⟨g, 0, none⟩) xs.length cap) ∧ (∀ W, Agr w.heap.size w' W → MkG 9 nV nT zNo W (some ⟨g, 0, none⟩) cap ys) ∧ ys.map np = xs.map np) ∧ Below w.heap.size w w' := by
  have hC : Hid (Calls Tryd.prog 4 #[.slice a xs.length c] w fun e w' => (∃ v ys, e = .returned v ∧ OwnD w' w.heap.size v ys ∧ ys.map np = xs.map np) ∧ Below w.heap.size w w') := copiedD_any xs a c w hn hl h
  have h' : Hid (FRow w a xs) := h
  have hl' : Hid (∀ x ∈ xs, x.l.length ≤ 1048576) := hl
  clear h hl
  go_enter Tryd.func5, Tryd.ntmps5
  go_upto_region 2 with (go_at_call 4; refine hC.out.mono ?_; rintro e w1 ⟨⟨v, ys0, rfl, hD, hp0⟩, hb1⟩)
  have hI0 : Hid (RM w1 w.heap.size v ys0 0 ∧ ys0.map np = xs.map np ∧ Below w.heap.size w w1) := ⟨RM.start hD, hp0, hb1⟩
  obtain ⟨va, vc, hv⟩ : ∃ va vc, v = .slice va xs.length vc := by
    obtain ⟨a', c', e, _⟩ := hD.1.slice
    have : ys0.length = xs.length := by simpa using congrArg List.length hp0
    exact ⟨a', c', by rw [e, this]⟩
  subst hv
  clear hC hD hp0 hb1
  go_wp2_with fail
  go_loopw [4] (fun iv wr => ∃ (i : Nat) (zs : List Nod), i ≤ xs.length ∧ iv = .int .i64 (i : Int) ∧ Hid (RM wr w.heap.size (.slice va xs.length vc) zs i ∧ zs.map np = xs.map np ∧ Below w.heap.size w wr)) (fun iv _ => xs.length - (intOf iv).toNat)
  case atStart => exact ⟨0, ys0, Nat.zero_le _, rfl, hI0⟩
  case round =>
    obtain ⟨i, zs, hi, rfl, hI⟩ := hrel
    clear hI0
    have hzl : zs.length = xs.length := by simpa using congrArg List.length hI.out.2.1
    have hzl' : Hid (zs.length = xs.length) := hzl
    by_cases hlt : i < xs.length
    · have hlz : i < zs.length := by omega
      have hR := hI.out.1
      obtain ⟨gv, rfl⟩ : ∃ gv, va = some ⟨gv, 0, none⟩ := by
        rcases owns_form (show wr.ownsRow w.heap.size 38 9 _ _ _ from hR.1) with ⟨_, h0⟩ | ⟨g, cap, e, _⟩
        · omega
        · injection e with e
          exact ⟨g, e⟩
      rw [← hzl] at hR
      have hB0 : w.heap.size ≤ wr.heap.size := hI.out.2.2.size
      have hxl : zs[i].l.length ≤ 1048576 := by
        rw [np_l (np_at' hI.out.2.1 hlt hlz)]
        exact hl'.out _ (List.getElem_mem hlt)
      obtain ⟨g2, cap2, w2, hr, hcap, hb2, ⟨u, hcell⟩, hfro, hR2⟩ := rm_step hR hlz hB0 hxl
      have hnp : np { zs[i] with a := some ⟨g2, 0, none⟩, n := cap2 } = np zs[i] := rfl
      have hps := np_set hlz hI.out.2.1 _ hnp
      rw [hzl] at hR2
      have c5 : wr.cell? ⟨gv, i * 9 + 5, none⟩ = some (.slice zs[i].a zs[i].l.length zs[i].n) := by
        have hlt9 : i * 9 + 5 < zs.length * 9 := by omega
        have hc := World.ownsRow.cellAt (show wr.ownsRow w.heap.size 38 9 _ zs.length (zs.flatMap nV) from hR.1) (i * 9 + 5) hlt9
        exact hc.trans (flatV_at nV 9 nV_len zs i hlz 5 (by decide))
      obtain ⟨b, off, rfl, hd⟩ := (h'.out.below (hI.out.2.2.trans hb2)).at i hlt
      have d5 := hd.2.2.2.2.2.1
      clear hd
      obtain ⟨fa, hfa⟩ : ∃ fa, xs[i].a = fa := ⟨_, rfl⟩
      obtain ⟨fn, hfn⟩ : ∃ fn, xs[i].n = fn := ⟨_, rfl⟩
      rw [hfa, hfn] at d5
      clear hfa hfn
      rw [← np_l (np_at' hI.out.2.1 hlt hlz)] at d5
      have hBW : Below w.heap.size w (w2.setCell ⟨gv, i * 9 + 5, none⟩ (.slice (some ⟨g2, 0, none⟩) zs[i].l.length cap2)) := by
        have hge : w.heap.size ≤ gv := (World.ownsRow.lt (show wr.ownsRow w.heap.size 38 9 _ _ _ from hR.1) gv rfl).1
        exact (hI.out.2.2.trans hb2).setCell (p := ⟨gv, i * 9 + 5, none⟩) hge _
      have hfin : Hid (RM (w2.setCell ⟨gv, i * 9 + 5, none⟩ (.slice (some ⟨g2, 0, none⟩) zs[i].l.length cap2)) w.heap.size (.slice (some ⟨gv, 0, none⟩) xs.length vc) (zs.set i { zs[i] with a := some ⟨g2, 0, none⟩, n := cap2 }) (i + 1) ∧ (zs.set i { zs[i] with a := some ⟨g2, 0, none⟩, n := cap2 }).map np = xs.map np ∧ Below w.heap.size w (w2.setCell ⟨gv, i * 9 + 5, none⟩ (.slice (some ⟨g2, 0, none⟩) zs[i].l.length cap2))) := ⟨hR2, hps, hBW⟩
      obtain ⟨ws, hws⟩ : ∃ ws, zs.set i { zs[i] with a := some ⟨g2, 0, none⟩, n := cap2 } = ws := ⟨_, rfl⟩
      rw [hws] at hfin
      obtain ⟨ln, hln⟩ : ∃ ln, zs[i].l.length = ln := ⟨_, rfl⟩
      obtain ⟨aa, haa⟩ : ∃ aa, zs[i].a = aa := ⟨_, rfl⟩
      obtain ⟨nn, hnn⟩ : ∃ nn, zs[i].n = nn := ⟨_, rfl⟩
      rw [hln, haa, hnn] at hr c5
      rw [hln] at hfin d5 hcap
      obtain ⟨wA, hwA⟩ : ∃ wA, wr.alloc (.cells #[.string ⟨#[115, 112, 97, 114, 101]⟩] 9) = wA := ⟨_, rfl⟩
      rw [hwA] at hr
      have i0 : (0 : Int) ≤ (i : Int) := Int.natCast_nonneg _
      have i1 : (i : Int) < (xs.length : Int) := Int.ofNat_lt.2 hlt
      have n0 : (0 : Int) ≤ (ln : Int) := Int.natCast_nonneg _
      have hlt' : Hid (i < xs.length) := hlt
      clear hR hxl hR2 hnp hps hBW hws hln haa hnn hb2 hI hB0 hzl hlz hlt
      go_upto_region 6 with (at_builtin; refine Lib.wpList_append_run _ rfl _ _ _ _ rfl _ _ rfl rfl _ _ hr ?_)
      clear hwA hr c5
      go_wp2_with fail
      go_roundw
      case rel => exact ⟨i + 1, ws, hlt'.out, by simp, hfin⟩
      case measure => have := hlt'.out; simp [intOf]; omega
    · have hie : i = xs.length := by omega
      subst hie
      have k1 : ¬ (xs.length : Int) < (xs.length : Int) := by omega
      have hM : OwnM 38 9 nV nT wr w.heap.size (.slice va xs.length vc) zs := by
        have h1 := hI.out.1
        rw [← hzl] at h1 ⊢
        exact h1.done
      obtain ⟨w4, hw4⟩ : ∃ W, wr.alloc (.cells #[.int .i64 0, .int .i64 0, .string ⟨#[115, 112, 97, 114, 101]⟩, .string ⟨#[]⟩, .string ⟨#[]⟩, .slice none 0 0, .string ⟨#[]⟩, .string ⟨#[]⟩, .bool false] 38) = W := ⟨_, rfl⟩
      have b4 : Box w4 wr.heap.size 38 (nV zNo).toArray := by rw [← hw4]; exact Box.new _ _ _
      have hb4 : Below wr.heap.size wr w4 := by rw [← hw4]; exact (Below.refl _ _).alloc (Nat.le_refl _) _
      have hO4 : OwnM 38 9 nV nT w4 w.heap.size (.slice va xs.length vc) zs := hM.keep (fun b hb => hb4.block b hb)
      have hB4 : Below w.heap.size w w4 := hI.out.2.2.trans (hb4.mono hI.out.2.2.size)
      have hs4 : w.heap.size ≤ w4.heap.size := hB4.size
      have hyn : (zs.length + 1) * 128 ≤ 140737488355328 := by omega
      have n0 : (0 : Int) ≤ (xs.length : Int) := Int.natCast_nonneg _
      have hP : Hid (zs.map np = xs.map np) := hI.out.2.1
      clear hI hM hzl
      go_wp2_with (at_builtin; refine push_gen kd_nod _ rfl _ _ rfl w.heap.size _ zs zNo wr.heap.size rfl rfl hO4.1 b4 hs4 hyn (by decide) ?_; intro g' cap' w5 hO5 hk5 hb5; have hG := mkB_of (by decide) nV_len hO4 hO5 hk5; have n1 : xs.length ≤ cap' := by have := (hG _ (Agr.refl _ _)).2.1; have := hzl'.out; omega)
      go_ret
      exact ⟨⟨g', cap', rfl, zs, hG, hP.out⟩, hB4.trans hb5⟩
end Go.Proofs.YtofghgggllfafaaDoor
