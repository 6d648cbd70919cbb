import Derived.Test.YthpfnajgbocpnaaPtSkp
import Derived.Test.YthpfnajgbocpnaaPtHpM
namespace Go.Proofs.Ythpfnajgbocpnaa
namespace Pt
open Go.RowKit Go.Sort Go.Lib
open PtMath (Inc setOf cnt)
open PtHpM (Hd ky kf swpH Hp Gd sw)
set_option linter.unusedVariables false
set_option maxRecDepth 100000
open PtT (Rk TB en)
variable {Tk : PtT.Rk}

def hv (h : Hd) : Value := .slice h.1 h.2.2.length h.2.1
/-- A heap's row, of the call's own. -/
def OwnH (W : World) (B : Nat) (v : Value) (H : List Hd) : Prop := W.ownsRow B 45 1 v H.length (H.map hv)
/-- A head's numbers, rising, one at least, lie ahead of B. -/
def HdOk (Tk : PtT.Rk) (W : World) (B : Nat) (h : Hd) : Prop := NRow Tk W h.1 h.2.2 ∧ (1 ≤ h.2.2.length ∧ h.2.2.length ≤ h.2.1 ∧ h.2.1 ≤ maxLen ∧ h.2.2.length ≤ 140737488355328) ∧ Inc h.2.2 ∧ ∀ x, h.1 = some x → x.block < B
theorem HdOk.but {W W' : World} {B g : Nat} {h : Hd} (hh : HdOk Tk W B h) (hb : ButB g W W') (hg : B ≤ g) : HdOk Tk W' B h := by
  refine ⟨hh.1.of_block (fun k hk _ => hb.2.2.2.2 k ?_), hh.2⟩
  obtain ⟨a, c, l⟩ := h
  cases a with
  | none => cases hk
  | some x => simp at hk; have := hh.2.2.2 x rfl; omega
theorem ownH_but {W W' : World} {B : Nat} {v : Value} {H : List Hd} (h : OwnH W B v H) (hb : ∀ k, B ≤ k → W'.heap[k]? = W.heap[k]?) : OwnH W' B v H := by
  rcases h with ⟨h1, ⟨rfl, h2⟩ | ⟨g, cap, cur, rfl, h3, h4, h5⟩⟩
  · exact ⟨h1, Or.inl ⟨rfl, h2⟩⟩
  · exact ⟨h1, Or.inr ⟨g, cap, cur, rfl, h3, by rw [hb g h3]; exact h4, h5⟩⟩
theorem ownH_cell {W : World} {B g cap : Nat} {H : List Hd} (h : OwnH W B (.slice (some ⟨g, 0, none⟩) H.length cap) H) (i : Nat) (hi : i < H.length) : W.cell? ⟨g, i, none⟩ = some (hv H[i]) ∧ W.frozen? ⟨g, i, none⟩ = false := by
  constructor
  · have hc := World.ownsRow.cellAt (show W.ownsRow B 45 1 _ H.length (H.map hv) from h) i (by omega)
    rw [hc]
    simp [hi]
  · rcases h.2 with ⟨e, _⟩ | ⟨g', cap', cur, e, _, hb, _⟩
    · cases e
    · cases e
      simp [World.frozen?, hb]
theorem ownH_g {W : World} {B g cap : Nat} {H : List Hd} (h : OwnH W B (.slice (some ⟨g, 0, none⟩) H.length cap) H) : B ≤ g ∧ g < W.heap.size ∧ H.length ≤ cap := by
  rcases h.2 with ⟨e, _⟩ | ⟨g', cap', cur, e, h3, hb, h5, _⟩
  · cases e
  · cases e
    exact ⟨h3, (Array.getElem?_eq_some_iff.1 hb).1, h5⟩
/-- One cell of it written. -/
theorem ownH_set {W : World} {B g cap : Nat} {H : List Hd} (h : OwnH W B (.slice (some ⟨g, 0, none⟩) H.length cap) H) (i : Nat) (hi : i < H.length) (x : Hd) : OwnH (W.setCell ⟨g, i, none⟩ (hv x)) B (.slice (some ⟨g, 0, none⟩) H.length cap) (H.set i x) := by
  rcases h.2 with ⟨e, _⟩ | ⟨g', cap', cur, e, h3, hb, h5, h6, h7, h8⟩
  · cases e
  · cases e
    unfold OwnH
    rw [List.length_set]
    refine ⟨by simp, Or.inr ⟨g, cap, _, rfl, h3, Go.heap_setCell_same _ _ _ _ _ _ hb, h5, h6, by simpa using h7, ?_⟩⟩
    rw [Nat.mul_one] at h8 ⊢
    rw [List.map_set, ← h8]
    simp [List.take_set]
theorem two_sets {W : World} {B g cap : Nat} {H : List Hd} (h : OwnH W B (.slice (some ⟨g, 0, none⟩) H.length cap) H) {p q : Nat} (hp : p < H.length) (hq : q < H.length) :
    OwnH ((W.setCell ⟨g, p, none⟩ (hv H[q])).setCell ⟨g, q, none⟩ (hv H[p])) B (.slice (some ⟨g, 0, none⟩) (swpH H p q).length cap) (swpH H p q) := by
  have h1 := ownH_set h p hp H[q]
  have e1 : H.length = (H.set p H[q]).length := by simp
  rw [e1] at h1
  have h2 := ownH_set h1 q (by simpa using hq) H[p]
  have e2 : H.getD q (none, 0, []) = H[q] := by simp [List.getD, hq]
  have e3 : H.getD p (none, 0, []) = H[p] := by simp [List.getD, hp]
  unfold swpH
  rw [e2, e3]
  rw [List.length_set]
  exact h2

set_option maxRecDepth 100000 in
set_option maxHeartbeats 1000000 in
theorem sink_any (g cap i0 B : Nat) (H : List Hd) (w : World) (hO : OwnH w B (.slice (some ⟨g, 0, none⟩) H.length cap) H) (hok : ∀ h ∈ H, HdOk Tk w B h) (hi : i0 ≤ H.length) (hlen : H.length ≤ 17592186044416) (hp : Hp (kf H) H.length (i0 + 1)) :
    Calls Try.prog 44 #[.slice (some ⟨g, 0, none⟩) H.length cap, .int .i64 (i0 : Int)] w fun e w' => e = .returned (.tuple #[]) ∧ ∃ H', OwnH w' B (.slice (some ⟨g, 0, none⟩) H.length cap) H' ∧ H'.Perm H ∧ Hp (kf H') H.length i0 ∧ ButB g w w' := by
  have hS : Hid (OwnH w B (.slice (some ⟨g, 0, none⟩) H.length cap) H ∧ (∀ h ∈ H, HdOk Tk w B h) ∧ i0 ≤ H.length ∧ H.length ≤ 17592186044416 ∧ Gd (kf H) H.length i0 i0) := ⟨hO, hok, hi, hlen, Gd.start hp⟩
  have hgB : Hid (B ≤ g) := (ownH_g hO).1
  obtain ⟨m, hm⟩ : ∃ m, H.length = m := ⟨_, rfl⟩
  rw [hm] at hS ⊢
  have mb : (m : Int) ≤ 17592186044416 := by omega
  have hm' : Hid (H.length = m) := hm
  clear hO hok hi hlen hp hm
  go_enter Try.func44, Try.ntmps44
  go_wp2_with fail
  go_loopw [1] (fun pv wr => ∃ (p : Nat) (Hc : List Hd), pv = .int .i64 (p : Int) ∧ p ≤ m ∧ Hid (i0 ≤ p ∧ Hc.length = m ∧ OwnH wr B (.slice (some ⟨g, 0, none⟩) Hc.length cap) Hc ∧ Hc.Perm H ∧ Gd (kf Hc) m i0 p ∧ ButB g w wr ∧ ∀ h ∈ Hc, HdOk Tk wr B h)) (fun pv _ => m - (intOf pv).toNat)
  case atStart => exact ⟨i0, H, rfl, hS.out.2.2.1, Nat.le_refl _, hm'.out, by rw [hm'.out]; exact hS.out.1, List.Perm.refl _, hS.out.2.2.2.2, ButB.refl _ _, hS.out.2.1⟩
  case round =>
    obtain ⟨p, Hc, rfl, hpm, hQ⟩ := hrel
    obtain ⟨wo, rfl⟩ : ∃ wo, wo = wr := ⟨_, rfl⟩
    have p0 : (0 : Int) ≤ (p : Int) := Int.natCast_nonneg _
    have pb : (p : Int) ≤ 17592186044416 := by omega
    go_wp2_with fail
    go_loopw [4, 5] (fun lv cv wr' => ∃ (q t n : Nat), lv = .int .i64 (q : Int) ∧ cv = .int .i64 (2 * (p : Int) + 1 + (t : Int)) ∧ t ≤ 2 ∧ Hid ((q = p ∨ (1 ≤ q ∧ (q - 1) / 2 = p ∧ q < m ∧ kf Hc q < kf Hc p)) ∧ (∀ j, 2 * p + 1 ≤ j → j < 2 * p + 1 + t → j < m → kf Hc q ≤ kf Hc j) ∧ (t = 0 → q = p)) ∧ Hid (wr' = wo.drewN n)) (fun _ cv _ => 2 * p + 3 - (intOf cv).toNat)
    case atStart => exact ⟨p, 0, 0, rfl, by simp, by omega, ⟨Or.inl rfl, fun j h1 h2 => by omega, fun _ => rfl⟩, rfl⟩
    case round =>
      obtain ⟨q, t, n, rfl, rfl, ht, hI, hw⟩ := hrel
      have t0 : (0 : Int) ≤ (t : Int) := Int.natCast_nonneg _
      have tb : (t : Int) ≤ 2 := by omega
      have q0 : (0 : Int) ≤ (q : Int) := Int.natCast_nonneg _
      have hIn := hI.out.1
      by_cases ht2 : t < 2
      · have a1 : 2 * (p : Int) + 1 + (t : Int) ≤ 2 * (p : Int) + 2 := by omega
        by_cases hcm : 2 * p + 1 + t < m
        · have a2 : 2 * (p : Int) + 1 + (t : Int) < (m : Int) := by omega
          have hqm : q < m := by omega
          have hqm' : (q : Int) < (m : Int) := by omega
          have hl1 : 2 * p + 1 + t < Hc.length := by rw [hQ.out.2.1]; exact hcm
          have hl2 : q < Hc.length := by rw [hQ.out.2.1]; exact hqm
          have hE : ∀ a, wr.cell? a = wo.cell? a := fun a => by rw [hw.out]; rfl
          have z1 := (ownH_cell hQ.out.2.2.1 _ hl1).1
          have z2 := (ownH_cell hQ.out.2.2.1 _ hl2).1
          have k1 := hQ.out.2.2.2.2.2.2 _ (List.getElem_mem hl1)
          have k2 := hQ.out.2.2.2.2.2.2 _ (List.getElem_mem hl2)
          have e1 : kf Hc (2 * p + 1 + t) = ky Hc[2 * p + 1 + t] := PtHpM.kf_at hl1
          have e2 : kf Hc q = ky Hc[q] := PtHpM.kf_at hl2
          generalize Hc[2 * p + 1 + t] = h1 at *
          generalize Hc[q] = h2 at *
          obtain ⟨x1, s1, l1⟩ := h1
          obtain ⟨x2, s2, l2⟩ := h2
          obtain ⟨b1, o1, f1, r1⟩ := k1.1 0 (by have := k1.2.1.1; exact this)
          obtain ⟨b2, o2, f2, r2⟩ := k2.1 0 (by have := k2.2.1.1; exact this)
          have n1 : 0 < l1.length := k1.2.1.1
          have n2 : 0 < l2.length := k2.2.1.1
          have e1' : kf Hc (2 * p + 1 + t) = l1[0] := by rw [e1]; cases l1 with | nil => simp at n1 | cons y l1 => rfl
          have e2' : kf Hc q = l2[0] := by rw [e2]; cases l2 with | nil => simp at n2 | cons y l2 => rfl
          dsimp only at f1 f2 r1 r2
          subst f1 f2
          simp only [Nat.add_zero] at r1 r2
          rw [← hE] at z1 z2 r1 r2
          simp only [hv] at z1 z2
          generalize l1[0] = y1 at *
          generalize l2[0] = y2 at *
          have n1' : (0 : Int) < (l1.length : Int) := Int.ofNat_lt.2 n1
          have n2' : (0 : Int) < (l2.length : Int) := Int.ofNat_lt.2 n2
          have c1 : (2 * (p : Int) + 1 + (t : Int)).toNat = 2 * p + 1 + t := by omega
          have hE1 : Hid (kf Hc (2 * p + 1 + t) = y1 ∧ kf Hc q = y2 ∧ t < 2 ∧ 2 * p + 1 + t < m) := ⟨e1', e2', ht2, hcm⟩
          generalize l1.length = N1 at *
          generalize l2.length = N2 at *
          clear k1 k2 e1 e2 e1' e2' hE hl1 hl2 n1 n2 hIn hqm hcm ht2 hpm
          by_cases hlt : y1 < y2
          · have hbl : Op.bytesLess (TB Tk y1).toList (TB Tk y2).toList = true := by rw [PtT.less]; exact decide_eq_true hlt
            have hN : Hid (((2 * p + 1 + t) = p ∨ (1 ≤ (2 * p + 1 + t) ∧ ((2 * p + 1 + t) - 1) / 2 = p ∧ (2 * p + 1 + t) < m ∧ kf Hc (2 * p + 1 + t) < kf Hc p)) ∧ (∀ j, 2 * p + 1 ≤ j → j < 2 * p + 1 + (t + 1) → j < m → kf Hc (2 * p + 1 + t) ≤ kf Hc j) ∧ (t + 1 = 0 → (2 * p + 1 + t) = p)) := by
              obtain ⟨w1, w2, w3, w4⟩ := hE1.out
              obtain ⟨v1, v2, v3⟩ := hI.out
              refine ⟨Or.inr ⟨by omega, by omega, w4, ?_⟩, fun j u1 u2 u3 => ?_, by omega⟩
              · rcases v1 with v1 | v1
                · rw [v1] at w2; rw [w1, w2]; exact hlt
                · have := v1.2.2.2; omega
              · by_cases ej : j = 2 * p + 1 + t
                · rw [ej]; exact Nat.le_refl _
                · have := v2 j u1 (by omega) u3; omega
            clear hI
            go_wp2_with fail
            go_quiet (fail)
            go_wp2_with fail
            go_roundw
            case rel => exact ⟨2 * p + 1 + t, t + 1, _, by simp, by simp; omega, by have := hE1.out; omega, hN, by unfold Hid; rw [hw.out, World.drewN_drewN]⟩
            case measure => have := hE1.out; simp [intOf]; omega
          · have hbl : Op.bytesLess (TB Tk y1).toList (TB Tk y2).toList = false := by rw [PtT.less]; exact decide_eq_false hlt
            have hN : Hid ((q = p ∨ (1 ≤ q ∧ (q - 1) / 2 = p ∧ q < m ∧ kf Hc q < kf Hc p)) ∧ (∀ j, 2 * p + 1 ≤ j → j < 2 * p + 1 + (t + 1) → j < m → kf Hc q ≤ kf Hc j) ∧ (t + 1 = 0 → q = p)) := by
              obtain ⟨w1, w2, w3, w4⟩ := hE1.out
              obtain ⟨v1, v2, v3⟩ := hI.out
              refine ⟨v1, fun j u1 u2 u3 => ?_, by omega⟩
              by_cases ej : j = 2 * p + 1 + t
              · rw [ej]; omega
              · exact v2 j u1 (by omega) u3
            clear hI
            go_wp2_with fail
            go_quiet (fail)
            go_wp2_with fail
            go_roundw
            case rel => exact ⟨q, t + 1, _, by simp, by simp; omega, by have := hE1.out; omega, hN, by unfold Hid; rw [hw.out, World.drewN_drewN]⟩
            case measure => have := hE1.out; simp [intOf]; omega
        · have a2 : ¬ 2 * (p : Int) + 1 + (t : Int) < (m : Int) := by omega
          have hall : Hid (∀ j, 1 ≤ j → j < m → (j - 1) / 2 = p → kf Hc q ≤ kf Hc j) := fun j u1 u2 u3 => hI.out.2.1 j (by omega) (by omega) u2
          by_cases hqp : q = p
          · subst hqp
            have d1 : ((q : Int) == (q : Int)) = true := by simp
            have hfin : Hid (∃ H', OwnH wr B (.slice (some ⟨g, 0, none⟩) m cap) H' ∧ H'.Perm H ∧ Hp (kf H') m i0 ∧ ButB g w wr) := by
              obtain ⟨u1, u2, u3, u4, u5, u6, u7⟩ := hQ.out
              refine ⟨Hc, ?_, u4, Gd.done u5 hall.out, by rw [hw.out]; exact u6.trans (ButB.drewN _ _ _)⟩
              rw [hw.out]
              rw [u2] at u3
              exact ownH_but u3 (fun _ _ => rfl)
            clear hQ hI hIn hw hall
            go_wp2_with fail
            exact bodyPost_ret (results_none rfl _ _ _) rfl ⟨rfl, hfin.out⟩
          · have d1 : ((q : Int) == (p : Int)) = false := by simp; omega
            obtain ⟨v1, v2, v3, v4⟩ := hIn.resolve_left hqp
            obtain ⟨u1, u2, u3, u4, u5, u6, u7⟩ := hQ.out
            have hl1 : p < Hc.length := by omega
            have hl2 : q < Hc.length := by omega
            have u3' : OwnH (wr.drew) B (.slice (some ⟨g, 0, none⟩) Hc.length cap) Hc := by rw [hw.out]; exact ownH_but u3 (fun _ _ => rfl)
            obtain ⟨z1, y1⟩ := ownH_cell u3' p hl1
            obtain ⟨z2, y2⟩ := ownH_cell u3' q hl2
            have hneq : p ≠ q := fun e => hqp e.symm
            have hfin : Hid (i0 ≤ q ∧ (swpH Hc p q).length = m ∧ OwnH (((wr.drew).setCell ⟨g, p, none⟩ (hv Hc[q])).setCell ⟨g, q, none⟩ (hv Hc[p])) B (.slice (some ⟨g, 0, none⟩) (swpH Hc p q).length cap) (swpH Hc p q) ∧ (swpH Hc p q).Perm H ∧ Gd (kf (swpH Hc p q)) m i0 q ∧ ButB g w (((wr.drew).setCell ⟨g, p, none⟩ (hv Hc[q])).setCell ⟨g, q, none⟩ (hv Hc[p])) ∧ ∀ h ∈ swpH Hc p q, HdOk Tk (((wr.drew).setCell ⟨g, p, none⟩ (hv Hc[q])).setCell ⟨g, q, none⟩ (hv Hc[p])) B h) := by
              have hbb : ButB g wo (((wr.drew).setCell ⟨g, p, none⟩ (hv Hc[q])).setCell ⟨g, q, none⟩ (hv Hc[p])) := by
                have h0 : ButB g wo wr.drew := by rw [hw.out]; exact ButB.drewN g wo (n + 1)
                exact (h0.trans (ButB.set _ _ _ _)).trans (ButB.set _ _ _ _)
              refine ⟨by omega, by rw [PtHpM.swpH_len]; exact u2, two_sets u3' hl1 hl2, (PtHpM.swpH_perm hl1 hl2).trans u4, ?_, u6.trans hbb, fun h hh => (u7 h ((PtHpM.swpH_perm hl1 hl2).mem_iff.1 hh)).but hbb hgB.out⟩
              rw [PtHpM.swpH_kf hl1 hl2 hneq]
              exact Gd.swap u5 u1 v3 v1 v2 v4 hall.out
            have hpq : Hid (p < q ∧ q < m) := ⟨by omega, v3⟩
            have pm : (p : Int) < (m : Int) := by omega
            have qm : (q : Int) < (m : Int) := by omega
            simp only [hv] at z1 z2 hfin
            generalize Hc[p] = h1 at *
            generalize Hc[q] = h2 at *
            obtain ⟨x1, s1, l1⟩ := h1
            obtain ⟨x2, s2, l2⟩ := h2
            dsimp only at z1 z2 hfin
            generalize l1.length = N1 at *
            generalize l2.length = N2 at *
            clear hQ hI hIn hall u1 u2 u3 u4 u5 u6 u7 hl1 hl2 u3' hqp v1 v2 v3 v4 hpm
            go_wp2_with fail
            refine wp_region_noPanic ?_
            refine wp_region_held_drew (S := fun _ => True) (by kernel_rfl) trivial (fun _ => ?_)
            clear hw
            generalize wr.drew = W0 at *
            refine wpAnyH_take (i := 0) (v := ?va1) (by simp only [List.getElem?_toArray, List.getElem?_cons_zero]; exact rfl) (by kernel_rfl) (by kernel_rfl) (by kernel_rfl) (fun _ _ _ h => h) (Or.inl ⟨by rfl, ?ya1⟩) trivial ?ra1
            case ya1 =>
              intro w' _
              go_simp
              try with_reducible rfl
            case ra1 =>
            simp only [Act.put, List.setIfInBounds_toArray, List.set_cons_zero, List.set_cons_succ]
            refine wpAnyH_take (i := 1) (v := ?va2) (by simp only [List.getElem?_toArray, List.getElem?_cons_zero, List.getElem?_cons_succ]; exact rfl) (by kernel_rfl) (by kernel_rfl) (by kernel_rfl) (fun _ _ _ h => h) (Or.inl ⟨by rfl, ?ya2⟩) trivial ?ra2
            case ya2 =>
              intro w' _
              go_simp
              try with_reducible rfl
            case ra2 =>
            simp only [Act.put, List.setIfInBounds_toArray, List.set_cons_zero, List.set_cons_succ]
            refine wpAnyH_take (i := 2) (v := ?va3) (by simp only [List.getElem?_toArray, List.getElem?_cons_zero, List.getElem?_cons_succ]; exact rfl) (by kernel_rfl) (by kernel_rfl) (by kernel_rfl) (fun _ _ _ h => h) (Or.inl ⟨by rfl, ?ya3⟩) trivial ?ra3
            case ya3 =>
              intro w' _
              go_simp
              try with_reducible rfl
            case ra3 =>
            simp only [Act.put, List.setIfInBounds_toArray, List.set_cons_zero, List.set_cons_succ]
            refine wpAnyH_take (i := 3) (v := ?va4) (by simp only [List.getElem?_toArray, List.getElem?_cons_zero, List.getElem?_cons_succ]; exact rfl) (by kernel_rfl) (by kernel_rfl) (by kernel_rfl) (fun _ _ _ h => h) (Or.inl ⟨by rfl, ?ya4⟩) trivial ?ra4
            case ya4 =>
              intro w' _
              go_simp
              try with_reducible rfl
            case ra4 =>
            simp only [Act.put, List.setIfInBounds_toArray, List.set_cons_zero, List.set_cons_succ]
            refine wpAnyH_take (i := 4) (v := ?va5) (by simp only [List.getElem?_toArray, List.getElem?_cons_zero, List.getElem?_cons_succ]; exact rfl) (by kernel_rfl) (by kernel_rfl) (by kernel_rfl) (fun _ _ _ h => h) (Or.inl ⟨by rfl, ?ya5⟩) trivial ?ra5
            case ya5 =>
              intro w' _
              go_simp
              try with_reducible rfl
            case ra5 =>
            simp only [Act.put, List.setIfInBounds_toArray, List.set_cons_zero, List.set_cons_succ]
            refine wpAnyH_take (i := 5) (v := ?va6) (by simp only [List.getElem?_toArray, List.getElem?_cons_zero, List.getElem?_cons_succ]; exact rfl) (by kernel_rfl) (by kernel_rfl) (by kernel_rfl) (fun _ _ _ h => h) (Or.inl ⟨by rfl, ?ya6⟩) trivial ?ra6
            case ya6 =>
              intro w' _
              go_simp
              try with_reducible rfl
            case ra6 =>
            simp only [Act.put, List.setIfInBounds_toArray, List.set_cons_zero, List.set_cons_succ]
            refine wpAnyH_take (i := 6) (v := ?va7) (by simp only [List.getElem?_toArray, List.getElem?_cons_zero, List.getElem?_cons_succ]; exact rfl) (by kernel_rfl) (by kernel_rfl) (by kernel_rfl) (fun _ _ _ h => h) (Or.inl ⟨by rfl, ?ya7⟩) trivial ?ra7
            case ya7 =>
              intro w' _
              go_simp
              try with_reducible rfl
            case ra7 =>
            simp only [Act.put, List.setIfInBounds_toArray, List.set_cons_zero, List.set_cons_succ]
            refine wpAnyH_take (i := 8) (v := ?va8) (by simp only [List.getElem?_toArray, List.getElem?_cons_zero, List.getElem?_cons_succ]; exact rfl) (by kernel_rfl) (by kernel_rfl) (by kernel_rfl) (fun _ _ _ h => h) (Or.inl ⟨by rfl, ?ya8⟩) trivial ?ra8
            case ya8 =>
              intro w' _
              go_simp
              try with_reducible rfl
            case ra8 =>
            simp only [Act.put, List.setIfInBounds_toArray, List.set_cons_zero, List.set_cons_succ]
            refine wpAnyH_take (i := 9) (v := ?va9) (by simp only [List.getElem?_toArray, List.getElem?_cons_zero, List.getElem?_cons_succ]; exact rfl) (by kernel_rfl) (by kernel_rfl) (by kernel_rfl) (fun _ _ _ h => h) (Or.inl ⟨by rfl, ?ya9⟩) trivial ?ra9
            case ya9 =>
              intro w' _
              go_simp
              try with_reducible rfl
            case ra9 =>
            simp only [Act.put, List.setIfInBounds_toArray, List.set_cons_zero, List.set_cons_succ]
            refine wpAnyH_take (i := 10) (v := ?va10) (by simp only [List.getElem?_toArray, List.getElem?_cons_zero, List.getElem?_cons_succ]; exact rfl) (by kernel_rfl) (by kernel_rfl) (by kernel_rfl) (fun _ _ _ h => h) (Or.inl ⟨by rfl, ?ya10⟩) trivial ?ra10
            case ya10 =>
              intro w' _
              go_simp
              try with_reducible rfl
            case ra10 =>
            simp only [Act.put, List.setIfInBounds_toArray, List.set_cons_zero, List.set_cons_succ]
            refine wpAnyH_ready (rs := [7, 11]) (by kernel_rfl) (by simp) ?_
            refine AllReadyH.cons (by simp only [List.getElem?_toArray, List.getElem?_cons_zero, List.getElem?_cons_succ]; exact rfl) (fun K hK => ?_) (AllReadyH.cons (by simp only [List.getElem?_toArray, List.getElem?_cons_zero, List.getElem?_cons_succ]; exact rfl) (fun K hK => ?_) AllReadyH.nil)
            · go_simp
              refine hK.out _ _ trivial (fun _ => ?_)
              clear hK K
              refine wpAnyH_ready (rs := [11]) (by kernel_rfl) (by simp) ?_
              refine AllReadyH.cons (by simp only [List.getElem?_toArray, List.getElem?_cons_zero, List.getElem?_cons_succ]; exact rfl) (fun K hK => ?_) AllReadyH.nil
              go_simp
              refine hK.out _ _ trivial (fun _ => ?_)
              clear hK K
              refine wpAnyH_take (i := 12) (v := ?va11) (by simp only [List.getElem?_toArray, List.getElem?_cons_zero, List.getElem?_cons_succ]; exact rfl) (by kernel_rfl) (by kernel_rfl) (by kernel_rfl) (fun _ _ _ h => h) (Or.inl ⟨by rfl, ?ya11⟩) trivial ?ra11
              case ya11 =>
                intro w' _
                go_simp
                try with_reducible rfl
              case ra11 =>
              simp only [Act.put, List.setIfInBounds_toArray, List.set_cons_zero, List.set_cons_succ]
              refine wpAnyH_ready (rs := [13]) (by kernel_rfl) (by simp) ?_
              refine AllReadyH.cons (by simp only [List.getElem?_toArray, List.getElem?_cons_zero, List.getElem?_cons_succ]; exact rfl) (fun K hK => ?_) AllReadyH.nil
              go_simp
              refine hK.out _ _ trivial (fun _ => ?_)
              clear hK K
              refine wpAnyH_take (i := 14) (v := ?va12) (by simp only [List.getElem?_toArray, List.getElem?_cons_zero, List.getElem?_cons_succ]; exact rfl) (by kernel_rfl) (by kernel_rfl) (by kernel_rfl) (fun _ _ _ h => h) (Or.inl ⟨by rfl, ?ya12⟩) trivial ?ra12
              case ya12 =>
                intro w' _
                go_simp
                try with_reducible rfl
              case ra12 =>
              simp only [Act.put, List.setIfInBounds_toArray, List.set_cons_zero, List.set_cons_succ]
              refine wpAnyH_ready (rs := [15]) (by kernel_rfl) (by simp) ?_
              refine AllReadyH.cons (by simp only [List.getElem?_toArray, List.getElem?_cons_zero, List.getElem?_cons_succ]; exact rfl) (fun K hK => ?_) AllReadyH.nil
              go_simp
              refine hK.out _ _ trivial (fun _ => ?_)
              clear hK K
              refine wpAnyH_done (by kernel_rfl) ?_ _
              refine NoPanic.normal ?_
              go_wp2_with fail
              go_roundw
              case rel => exact ⟨q, _, rfl, by have := hpq.out; omega, hfin⟩
              case measure => have := hpq.out; simp [intOf]; omega
            · go_simp
              refine hK.out _ _ trivial (fun _ => ?_)
              clear hK K
              refine wpAnyH_ready (rs := [7]) (by kernel_rfl) (by simp) ?_
              refine AllReadyH.cons (by simp only [List.getElem?_toArray, List.getElem?_cons_zero, List.getElem?_cons_succ]; exact rfl) (fun K hK => ?_) AllReadyH.nil
              go_simp
              refine hK.out _ _ trivial (fun _ => ?_)
              clear hK K
              refine wpAnyH_take (i := 12) (v := ?va13) (by simp only [List.getElem?_toArray, List.getElem?_cons_zero, List.getElem?_cons_succ]; exact rfl) (by kernel_rfl) (by kernel_rfl) (by kernel_rfl) (fun _ _ _ h => h) (Or.inl ⟨by rfl, ?ya13⟩) trivial ?ra13
              case ya13 =>
                intro w' _
                go_simp
                try with_reducible rfl
              case ra13 =>
              simp only [Act.put, List.setIfInBounds_toArray, List.set_cons_zero, List.set_cons_succ]
              refine wpAnyH_ready (rs := [13]) (by kernel_rfl) (by simp) ?_
              refine AllReadyH.cons (by simp only [List.getElem?_toArray, List.getElem?_cons_zero, List.getElem?_cons_succ]; exact rfl) (fun K hK => ?_) AllReadyH.nil
              go_simp
              refine hK.out _ _ trivial (fun _ => ?_)
              clear hK K
              refine wpAnyH_take (i := 14) (v := ?va14) (by simp only [List.getElem?_toArray, List.getElem?_cons_zero, List.getElem?_cons_succ]; exact rfl) (by kernel_rfl) (by kernel_rfl) (by kernel_rfl) (fun _ _ _ h => h) (Or.inl ⟨by rfl, ?ya14⟩) trivial ?ra14
              case ya14 =>
                intro w' _
                go_simp
                try with_reducible rfl
              case ra14 =>
              simp only [Act.put, List.setIfInBounds_toArray, List.set_cons_zero, List.set_cons_succ]
              refine wpAnyH_ready (rs := [15]) (by kernel_rfl) (by simp) ?_
              refine AllReadyH.cons (by simp only [List.getElem?_toArray, List.getElem?_cons_zero, List.getElem?_cons_succ]; exact rfl) (fun K hK => ?_) AllReadyH.nil
              go_simp
              refine hK.out _ _ trivial (fun _ => ?_)
              clear hK K
              refine wpAnyH_done (by kernel_rfl) ?_ _
              refine NoPanic.normal ?_
              go_wp2_with fail
              go_roundw
              case rel => exact ⟨q, _, rfl, by have := hpq.out; omega, hfin⟩
              case measure => have := hpq.out; simp [intOf]; omega
      · have a1 : ¬ 2 * (p : Int) + 1 + (t : Int) ≤ 2 * (p : Int) + 2 := by omega
        have hall : Hid (∀ j, 1 ≤ j → j < m → (j - 1) / 2 = p → kf Hc q ≤ kf Hc j) := fun j u1 u2 u3 => hI.out.2.1 j (by omega) (by omega) u2
        by_cases hqp : q = p
        · subst hqp
          have d1 : ((q : Int) == (q : Int)) = true := by simp
          have hfin : Hid (∃ H', OwnH wr B (.slice (some ⟨g, 0, none⟩) m cap) H' ∧ H'.Perm H ∧ Hp (kf H') m i0 ∧ ButB g w wr) := by
            obtain ⟨u1, u2, u3, u4, u5, u6, u7⟩ := hQ.out
            refine ⟨Hc, ?_, u4, Gd.done u5 hall.out, by rw [hw.out]; exact u6.trans (ButB.drewN _ _ _)⟩
            rw [hw.out]
            rw [u2] at u3
            exact ownH_but u3 (fun _ _ => rfl)
          clear hQ hI hIn hw hall
          go_wp2_with fail
          exact bodyPost_ret (results_none rfl _ _ _) rfl ⟨rfl, hfin.out⟩
        · have d1 : ((q : Int) == (p : Int)) = false := by simp; omega
          obtain ⟨v1, v2, v3, v4⟩ := hIn.resolve_left hqp
          obtain ⟨u1, u2, u3, u4, u5, u6, u7⟩ := hQ.out
          have hl1 : p < Hc.length := by omega
          have hl2 : q < Hc.length := by omega
          have u3' : OwnH (wr.drew) B (.slice (some ⟨g, 0, none⟩) Hc.length cap) Hc := by rw [hw.out]; exact ownH_but u3 (fun _ _ => rfl)
          obtain ⟨z1, y1⟩ := ownH_cell u3' p hl1
          obtain ⟨z2, y2⟩ := ownH_cell u3' q hl2
          have hneq : p ≠ q := fun e => hqp e.symm
          have hfin : Hid (i0 ≤ q ∧ (swpH Hc p q).length = m ∧ OwnH (((wr.drew).setCell ⟨g, p, none⟩ (hv Hc[q])).setCell ⟨g, q, none⟩ (hv Hc[p])) B (.slice (some ⟨g, 0, none⟩) (swpH Hc p q).length cap) (swpH Hc p q) ∧ (swpH Hc p q).Perm H ∧ Gd (kf (swpH Hc p q)) m i0 q ∧ ButB g w (((wr.drew).setCell ⟨g, p, none⟩ (hv Hc[q])).setCell ⟨g, q, none⟩ (hv Hc[p])) ∧ ∀ h ∈ swpH Hc p q, HdOk Tk (((wr.drew).setCell ⟨g, p, none⟩ (hv Hc[q])).setCell ⟨g, q, none⟩ (hv Hc[p])) B h) := by
            have hbb : ButB g wo (((wr.drew).setCell ⟨g, p, none⟩ (hv Hc[q])).setCell ⟨g, q, none⟩ (hv Hc[p])) := by
              have h0 : ButB g wo wr.drew := by rw [hw.out]; exact ButB.drewN g wo (n + 1)
              exact (h0.trans (ButB.set _ _ _ _)).trans (ButB.set _ _ _ _)
            refine ⟨by omega, by rw [PtHpM.swpH_len]; exact u2, two_sets u3' hl1 hl2, (PtHpM.swpH_perm hl1 hl2).trans u4, ?_, u6.trans hbb, fun h hh => (u7 h ((PtHpM.swpH_perm hl1 hl2).mem_iff.1 hh)).but hbb hgB.out⟩
            rw [PtHpM.swpH_kf hl1 hl2 hneq]
            exact Gd.swap u5 u1 v3 v1 v2 v4 hall.out
          have hpq : Hid (p < q ∧ q < m) := ⟨by omega, v3⟩
          have pm : (p : Int) < (m : Int) := by omega
          have qm : (q : Int) < (m : Int) := by omega
          simp only [hv] at z1 z2 hfin
          generalize Hc[p] = h1 at *
          generalize Hc[q] = h2 at *
          obtain ⟨x1, s1, l1⟩ := h1
          obtain ⟨x2, s2, l2⟩ := h2
          dsimp only at z1 z2 hfin
          generalize l1.length = N1 at *
          generalize l2.length = N2 at *
          clear hQ hI hIn hall u1 u2 u3 u4 u5 u6 u7 hl1 hl2 u3' hqp v1 v2 v3 v4 hpm
          go_wp2_with fail
          refine wp_region_noPanic ?_
          refine wp_region_held_drew (S := fun _ => True) (by kernel_rfl) trivial (fun _ => ?_)
          clear hw
          generalize wr.drew = W0 at *
          refine wpAnyH_take (i := 0) (v := ?va15) (by simp only [List.getElem?_toArray, List.getElem?_cons_zero]; exact rfl) (by kernel_rfl) (by kernel_rfl) (by kernel_rfl) (fun _ _ _ h => h) (Or.inl ⟨by rfl, ?ya15⟩) trivial ?ra15
          case ya15 =>
            intro w' _
            go_simp
            try with_reducible rfl
          case ra15 =>
          simp only [Act.put, List.setIfInBounds_toArray, List.set_cons_zero, List.set_cons_succ]
          refine wpAnyH_take (i := 1) (v := ?va16) (by simp only [List.getElem?_toArray, List.getElem?_cons_zero, List.getElem?_cons_succ]; exact rfl) (by kernel_rfl) (by kernel_rfl) (by kernel_rfl) (fun _ _ _ h => h) (Or.inl ⟨by rfl, ?ya16⟩) trivial ?ra16
          case ya16 =>
            intro w' _
            go_simp
            try with_reducible rfl
          case ra16 =>
          simp only [Act.put, List.setIfInBounds_toArray, List.set_cons_zero, List.set_cons_succ]
          refine wpAnyH_take (i := 2) (v := ?va17) (by simp only [List.getElem?_toArray, List.getElem?_cons_zero, List.getElem?_cons_succ]; exact rfl) (by kernel_rfl) (by kernel_rfl) (by kernel_rfl) (fun _ _ _ h => h) (Or.inl ⟨by rfl, ?ya17⟩) trivial ?ra17
          case ya17 =>
            intro w' _
            go_simp
            try with_reducible rfl
          case ra17 =>
          simp only [Act.put, List.setIfInBounds_toArray, List.set_cons_zero, List.set_cons_succ]
          refine wpAnyH_take (i := 3) (v := ?va18) (by simp only [List.getElem?_toArray, List.getElem?_cons_zero, List.getElem?_cons_succ]; exact rfl) (by kernel_rfl) (by kernel_rfl) (by kernel_rfl) (fun _ _ _ h => h) (Or.inl ⟨by rfl, ?ya18⟩) trivial ?ra18
          case ya18 =>
            intro w' _
            go_simp
            try with_reducible rfl
          case ra18 =>
          simp only [Act.put, List.setIfInBounds_toArray, List.set_cons_zero, List.set_cons_succ]
          refine wpAnyH_take (i := 4) (v := ?va19) (by simp only [List.getElem?_toArray, List.getElem?_cons_zero, List.getElem?_cons_succ]; exact rfl) (by kernel_rfl) (by kernel_rfl) (by kernel_rfl) (fun _ _ _ h => h) (Or.inl ⟨by rfl, ?ya19⟩) trivial ?ra19
          case ya19 =>
            intro w' _
            go_simp
            try with_reducible rfl
          case ra19 =>
          simp only [Act.put, List.setIfInBounds_toArray, List.set_cons_zero, List.set_cons_succ]
          refine wpAnyH_take (i := 5) (v := ?va20) (by simp only [List.getElem?_toArray, List.getElem?_cons_zero, List.getElem?_cons_succ]; exact rfl) (by kernel_rfl) (by kernel_rfl) (by kernel_rfl) (fun _ _ _ h => h) (Or.inl ⟨by rfl, ?ya20⟩) trivial ?ra20
          case ya20 =>
            intro w' _
            go_simp
            try with_reducible rfl
          case ra20 =>
          simp only [Act.put, List.setIfInBounds_toArray, List.set_cons_zero, List.set_cons_succ]
          refine wpAnyH_take (i := 6) (v := ?va21) (by simp only [List.getElem?_toArray, List.getElem?_cons_zero, List.getElem?_cons_succ]; exact rfl) (by kernel_rfl) (by kernel_rfl) (by kernel_rfl) (fun _ _ _ h => h) (Or.inl ⟨by rfl, ?ya21⟩) trivial ?ra21
          case ya21 =>
            intro w' _
            go_simp
            try with_reducible rfl
          case ra21 =>
          simp only [Act.put, List.setIfInBounds_toArray, List.set_cons_zero, List.set_cons_succ]
          refine wpAnyH_take (i := 8) (v := ?va22) (by simp only [List.getElem?_toArray, List.getElem?_cons_zero, List.getElem?_cons_succ]; exact rfl) (by kernel_rfl) (by kernel_rfl) (by kernel_rfl) (fun _ _ _ h => h) (Or.inl ⟨by rfl, ?ya22⟩) trivial ?ra22
          case ya22 =>
            intro w' _
            go_simp
            try with_reducible rfl
          case ra22 =>
          simp only [Act.put, List.setIfInBounds_toArray, List.set_cons_zero, List.set_cons_succ]
          refine wpAnyH_take (i := 9) (v := ?va23) (by simp only [List.getElem?_toArray, List.getElem?_cons_zero, List.getElem?_cons_succ]; exact rfl) (by kernel_rfl) (by kernel_rfl) (by kernel_rfl) (fun _ _ _ h => h) (Or.inl ⟨by rfl, ?ya23⟩) trivial ?ra23
          case ya23 =>
            intro w' _
            go_simp
            try with_reducible rfl
          case ra23 =>
          simp only [Act.put, List.setIfInBounds_toArray, List.set_cons_zero, List.set_cons_succ]
          refine wpAnyH_take (i := 10) (v := ?va24) (by simp only [List.getElem?_toArray, List.getElem?_cons_zero, List.getElem?_cons_succ]; exact rfl) (by kernel_rfl) (by kernel_rfl) (by kernel_rfl) (fun _ _ _ h => h) (Or.inl ⟨by rfl, ?ya24⟩) trivial ?ra24
          case ya24 =>
            intro w' _
            go_simp
            try with_reducible rfl
          case ra24 =>
          simp only [Act.put, List.setIfInBounds_toArray, List.set_cons_zero, List.set_cons_succ]
          refine wpAnyH_ready (rs := [7, 11]) (by kernel_rfl) (by simp) ?_
          refine AllReadyH.cons (by simp only [List.getElem?_toArray, List.getElem?_cons_zero, List.getElem?_cons_succ]; exact rfl) (fun K hK => ?_) (AllReadyH.cons (by simp only [List.getElem?_toArray, List.getElem?_cons_zero, List.getElem?_cons_succ]; exact rfl) (fun K hK => ?_) AllReadyH.nil)
          · go_simp
            refine hK.out _ _ trivial (fun _ => ?_)
            clear hK K
            refine wpAnyH_ready (rs := [11]) (by kernel_rfl) (by simp) ?_
            refine AllReadyH.cons (by simp only [List.getElem?_toArray, List.getElem?_cons_zero, List.getElem?_cons_succ]; exact rfl) (fun K hK => ?_) AllReadyH.nil
            go_simp
            refine hK.out _ _ trivial (fun _ => ?_)
            clear hK K
            refine wpAnyH_take (i := 12) (v := ?va25) (by simp only [List.getElem?_toArray, List.getElem?_cons_zero, List.getElem?_cons_succ]; exact rfl) (by kernel_rfl) (by kernel_rfl) (by kernel_rfl) (fun _ _ _ h => h) (Or.inl ⟨by rfl, ?ya25⟩) trivial ?ra25
            case ya25 =>
              intro w' _
              go_simp
              try with_reducible rfl
            case ra25 =>
            simp only [Act.put, List.setIfInBounds_toArray, List.set_cons_zero, List.set_cons_succ]
            refine wpAnyH_ready (rs := [13]) (by kernel_rfl) (by simp) ?_
            refine AllReadyH.cons (by simp only [List.getElem?_toArray, List.getElem?_cons_zero, List.getElem?_cons_succ]; exact rfl) (fun K hK => ?_) AllReadyH.nil
            go_simp
            refine hK.out _ _ trivial (fun _ => ?_)
            clear hK K
            refine wpAnyH_take (i := 14) (v := ?va26) (by simp only [List.getElem?_toArray, List.getElem?_cons_zero, List.getElem?_cons_succ]; exact rfl) (by kernel_rfl) (by kernel_rfl) (by kernel_rfl) (fun _ _ _ h => h) (Or.inl ⟨by rfl, ?ya26⟩) trivial ?ra26
            case ya26 =>
              intro w' _
              go_simp
              try with_reducible rfl
            case ra26 =>
            simp only [Act.put, List.setIfInBounds_toArray, List.set_cons_zero, List.set_cons_succ]
            refine wpAnyH_ready (rs := [15]) (by kernel_rfl) (by simp) ?_
            refine AllReadyH.cons (by simp only [List.getElem?_toArray, List.getElem?_cons_zero, List.getElem?_cons_succ]; exact rfl) (fun K hK => ?_) AllReadyH.nil
            go_simp
            refine hK.out _ _ trivial (fun _ => ?_)
            clear hK K
            refine wpAnyH_done (by kernel_rfl) ?_ _
            refine NoPanic.normal ?_
            go_wp2_with fail
            go_roundw
            case rel => exact ⟨q, _, rfl, by have := hpq.out; omega, hfin⟩
            case measure => have := hpq.out; simp [intOf]; omega
          · go_simp
            refine hK.out _ _ trivial (fun _ => ?_)
            clear hK K
            refine wpAnyH_ready (rs := [7]) (by kernel_rfl) (by simp) ?_
            refine AllReadyH.cons (by simp only [List.getElem?_toArray, List.getElem?_cons_zero, List.getElem?_cons_succ]; exact rfl) (fun K hK => ?_) AllReadyH.nil
            go_simp
            refine hK.out _ _ trivial (fun _ => ?_)
            clear hK K
            refine wpAnyH_take (i := 12) (v := ?va27) (by simp only [List.getElem?_toArray, List.getElem?_cons_zero, List.getElem?_cons_succ]; exact rfl) (by kernel_rfl) (by kernel_rfl) (by kernel_rfl) (fun _ _ _ h => h) (Or.inl ⟨by rfl, ?ya27⟩) trivial ?ra27
            case ya27 =>
              intro w' _
              go_simp
              try with_reducible rfl
            case ra27 =>
            simp only [Act.put, List.setIfInBounds_toArray, List.set_cons_zero, List.set_cons_succ]
            refine wpAnyH_ready (rs := [13]) (by kernel_rfl) (by simp) ?_
            refine AllReadyH.cons (by simp only [List.getElem?_toArray, List.getElem?_cons_zero, List.getElem?_cons_succ]; exact rfl) (fun K hK => ?_) AllReadyH.nil
            go_simp
            refine hK.out _ _ trivial (fun _ => ?_)
            clear hK K
            refine wpAnyH_take (i := 14) (v := ?va28) (by simp only [List.getElem?_toArray, List.getElem?_cons_zero, List.getElem?_cons_succ]; exact rfl) (by kernel_rfl) (by kernel_rfl) (by kernel_rfl) (fun _ _ _ h => h) (Or.inl ⟨by rfl, ?ya28⟩) trivial ?ra28
            case ya28 =>
              intro w' _
              go_simp
              try with_reducible rfl
            case ra28 =>
            simp only [Act.put, List.setIfInBounds_toArray, List.set_cons_zero, List.set_cons_succ]
            refine wpAnyH_ready (rs := [15]) (by kernel_rfl) (by simp) ?_
            refine AllReadyH.cons (by simp only [List.getElem?_toArray, List.getElem?_cons_zero, List.getElem?_cons_succ]; exact rfl) (fun K hK => ?_) AllReadyH.nil
            go_simp
            refine hK.out _ _ trivial (fun _ => ?_)
            clear hK K
            refine wpAnyH_done (by kernel_rfl) ?_ _
            refine NoPanic.normal ?_
            go_wp2_with fail
            go_roundw
            case rel => exact ⟨q, _, rfl, by have := hpq.out; omega, hfin⟩
            case measure => have := hpq.out; simp [intOf]; omega
end Pt
end Go.Proofs.Ythpfnajgbocpnaa
