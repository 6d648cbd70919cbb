import Derived.Test.YtofghgggllfafaaDoorFgHd
namespace Go.Proofs.YtofghgggllfafaaDoor
open Go.RowKit
set_option linter.unusedVariables false

set_option maxRecDepth 100000 in
set_option maxHeartbeats 4000000 in
theorem sparedF_any (xs ys : List Nod) (oa ha fa : Option Addr) (oc hc fc : Nat) (w : World) (hn : xs.length ≤ 1048576) (hl : ∀ x ∈ xs, x.l.length ≤ 1048576) (hp : ys.map np = xs.map np) (h1 : MkG 9 nV nT zNo w oa oc ys) (h2 : GRow 9 nV w ha (ys ++ [zNo])) (h3 : FRow w fa xs) :
    Calls Tryd.prog 10 #[.slice oa xs.length oc, .slice ha (xs.length + 1) hc, .slice fa xs.length fc] w fun e w' => e = .returned (.bool true) ∧ Below w.heap.size w w' := by
  have hlen : ys.length = xs.length := by simpa using congrArg List.length hp
  have hly : ∀ y ∈ ys, y.l.length ≤ 1048576 := fun y hy => by
    have h4 : np y ∈ ys.map np := List.mem_map.2 ⟨y, hy, rfl⟩
    rw [hp] at h4
    obtain ⟨x, hx, e⟩ := List.mem_map.1 h4
    rw [← np_l e]
    exact hl x hx
  have hE : Hid (Calls Tryd.prog 9 #[.slice oa xs.length oc, .slice fa xs.length fc] w fun e w' => e = .returned (.bool true) ∧ Below w.heap.size w w') := by
    have := sameF_any ys xs oa fa oc fc w (by omega) (by omega) hly hl h1.rd.fr h3
    rw [fb_yes hp, hlen] at this
    exact this
  have hall : Hid (∀ W, Below w.heap.size w W → MkG 9 nV nT zNo W oa oc ys ∧ GRow 9 nV W ha (ys ++ [zNo]) ∧ FRow W fa xs) := fun W hW => ⟨h1.below nV_len hW, h2.below nV_len hW, h3.below hW⟩
  have hoth : Hid (ys.map np = xs.map np ∧ (∀ x ∈ xs, x.l.length ≤ 1048576) ∧ ys.length = xs.length) := ⟨hp, hl, hlen⟩
  obtain ⟨bo, oo, rfl, o0⟩ := h1.1 ys.length (by simp)
  obtain ⟨bh, oh, rfl, q0⟩ := h2 ys.length (by simp)
  have n0 : (0 : Int) ≤ (xs.length : Int) := Int.natCast_nonneg _
  have n1 : xs.length + 1 ≤ oc := by have := h1.2.1; omega
  have n2 : (xs.length : Int) < ((xs.length + 1 : Nat) : Int) := Int.ofNat_lt.2 (Nat.lt_succ_self _)
  have n3 : wrap64 ((xs.length : Int) + 1) = ((xs.length + 1 : Nat) : Int) := by
    rw [IntWalk.wrap64_in] <;> omega
  have n4 : (0 : Int) ≤ ((xs.length + 1 : Nat) : Int) := Int.natCast_nonneg _
  have hK : Hid (∀ W, Below w.heap.size w W → W.cell? ⟨bo, oo + xs.length * 9 + 2, none⟩ = some (.string ⟨#[115, 112, 97, 114, 101]⟩) ∧ W.cell? ⟨bh, oh + xs.length * 9 + 2, none⟩ = some (.string ⟨#[115, 112, 97, 114, 101]⟩)) := fun W hW => by
    obtain ⟨_, _, e1, o1⟩ := (hall.out W hW).1.1 ys.length (by simp)
    obtain ⟨_, _, e2, q1⟩ := (hall.out W hW).2.1 ys.length (by simp)
    injection e1 with e1; injection e1 with e1 e3; subst e1 e3
    injection e2 with e2; injection e2 with e2 e3; subst e2 e3
    have u1 := o1 2 (by omega)
    have u2 := q1 2 (by omega)
    rw [List.getElem_append_right (Nat.le_refl _)] at u1 u2
    simp only [Nat.sub_self, List.getElem_cons_zero] at u1 u2
    rw [hlen] at u1 u2
    exact ⟨u1, u2⟩
  clear h1 h2 h3 hp hl hlen hly o0 q0
  generalize hm : xs.length + 1 = m at *
  have hm' : Hid (xs.length + 1 = m) := hm
  clear hm
  go_enter Tryd.func10, Tryd.ntmps10
  go_wp2_with (go_at_call 9; refine hE.out.mono ?_; rintro e w1 ⟨rfl, hb1⟩; obtain ⟨k1, k2⟩ := hK.out w1 hb1)
  have hfin : Hid (Below w.heap.size w w1) := hb1
  clear hE hK k1 k2 hb1 n1 n3 n4
  go_loopw [8] (fun iv wr => ∃ i q : Nat, i ≤ xs.length ∧ iv = .int .i64 (i : Int) ∧ Hid (wr = w1.drewN q)) (fun iv _ => xs.length - (intOf iv).toNat)
  case atStart => exact ⟨0, 0, Nat.zero_le _, rfl, rfl⟩
  case round =>
    obtain ⟨i, q, hi, rfl, hw⟩ := hrel
    by_cases hlt : i < xs.length
    · have hlz : i < ys.length := by rw [hoth.out.2.2]; exact hlt
      have hBr : Below w.heap.size w wr := by rw [hw.out]; exact hfin.out.trans (drewN_below _ _ _)
      obtain ⟨hM, hG, hF⟩ := hall.out wr hBr
      obtain ⟨bf, of, rfl, hd⟩ := hF.at i hlt
      have c5 := hd.2.2.2.2.2.1
      obtain ⟨_, _, e2, hq⟩ := hG.front i hlz
      injection e2 with e2; injection e2 with e2 e3; subst e2 e3
      have d5 := hq 5 (by omega)
      have hmk := hM.2.2 _ (List.getElem_mem hlz)
      have hxl := hoth.out.2.1 _ (List.getElem_mem hlt)
      have hnl := np_l (np_at' hoth.out.1 hlt hlz)
      have hrx := (hF i hlt).2
      obtain ⟨⟨xd, xo, xs', xv, xi, xa, xn, xl, xf, xr, xb⟩, hx⟩ : ∃ x, xs[i] = x := ⟨_, rfl⟩
      obtain ⟨⟨yd, yo, ys', yv, yi, ya, yn, yl, yf, yr, yb⟩, hy⟩ : ∃ y, ys[i] = y := ⟨_, rfl⟩
      rw [hx] at c5 hxl hnl hrx
      rw [hy] at d5 hmk hnl
      dsimp only [nT] at c5 hxl hnl hmk hrx
      subst hnl
      have d6 : wr.cell? ⟨bh, oh + i * 9 + 5, none⟩ = some (.slice ya yl.length yn) := d5
      obtain ⟨bt, ot, hya, hct⟩ := hmk.1 yl.length (by simp)
      subst hya
      rw [List.getElem_append_right (Nat.le_refl _)] at hct
      simp only [Nat.sub_self, List.getElem_cons_zero] at hct
      have hct' : wr.cell? ⟨bt, ot + yl.length, none⟩ = some (.string ⟨#[115, 112, 97, 114, 101]⟩) := hct
      have hcap : yl.length + 1 ≤ yn := hmk.2
      have hS : ∀ n, Hid (Calls Tryd.prog 20 #[.slice (some ⟨bt, ot, none⟩) yl.length yn, .slice xa yl.length xn] (wr.drewN n) fun e w' => e = .returned (.bool true) ∧ ∃ m, w' = (wr.drewN n).drewN m) := fun n =>
        sameTl_any yl _ xa yn xn _ hxl (hmk.row.drewN n) (hrx.drewN n)
      have i0 : (0 : Int) ≤ (i : Int) := Int.natCast_nonneg _
      have i1 : (i : Int) < (xs.length : Int) := Int.ofNat_lt.2 hlt
      have i2 : (i : Int) < (m : Int) := by have := hm'.out; omega
      have l0 : (0 : Int) ≤ (yl.length : Int) := Int.natCast_nonneg _
      have l2 : (yl.length : Int) < ((yl.length + 1 : Nat) : Int) := Int.ofNat_lt.2 (Nat.lt_succ_self _)
      have l3 : wrap64 ((yl.length : Int) + 1) = ((yl.length + 1 : Nat) : Int) := by
        rw [IntWalk.wrap64_in] <;> omega
      have l4 : (0 : Int) ≤ ((yl.length + 1 : Nat) : Int) := Int.natCast_nonneg _
      have l5 : yl.length ≤ yn := by omega
      have hlt' : Hid (i < xs.length) := hlt
      clear hM hG hF hd hq hmk hxl hrx hx hy hlt hlz d5 hct hBr n2
      generalize hm2 : yl.length + 1 = m2 at *
      clear hm2
      go_wp2_with fail
      go_quiet ((go_at_call 20; exact Calls.quiet_of (hS _).out))
      clear hS c5 d6 hct' hcap
      go_wp2_with fail
      go_roundw
      case rel => exact ⟨i + 1, _, hlt'.out, by simp, by unfold Hid; rw [hw.out, World.drewN_drewN]⟩
      case measure => have := hlt'.out; simp [intOf]; omega
    · have e : i = xs.length := by omega
      subst e
      have k1 : ¬ (xs.length : Int) < (xs.length : Int) := by omega
      go_wp2_with fail
      go_ret
      exact ⟨rfl, by rw [hw.out]; exact hfin.out.trans (drewN_below _ _ _)⟩
end Go.Proofs.YtofghgggllfafaaDoor
