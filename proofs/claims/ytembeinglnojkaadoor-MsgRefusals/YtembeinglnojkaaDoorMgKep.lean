import Derived.Test.YtembeinglnojkaaDoorMgCpR
namespace Go.Proofs.YtembeinglnojkaaDoor
open Go.RowKit
set_option linter.unusedVariables false

set_option maxRecDepth 100000 in
set_option maxHeartbeats 4000000 in
theorem kept_any (q : Scl) (M L : Lst) (w : World) (hm : LSm M) (h1 : LMk w M) (h2 : LRd w L) (he : LSa M L) :
    Calls Tryd.prog 8 #[.agg (rq q M), .agg (rq q L)] w fun e w' => e = .returned (.bool true) ∧ Below w.heap.size w w' := by
  have hS0 : ∀ W, Below w.heap.size w W → Calls Tryd.prog 21 #[.agg (rq q M), .agg (rq q L)] W fun e w' => e = .returned (.bool true) ∧ Below W.heap.size W w' := fun W hW => sameRequest_any q M L W hm (h1.rd.below hW) (h2.below hW) he
  obtain ⟨id, kind, ver, bn, meth, pass, mech, cred, hasc, base, scope, deref, slim, tlim, typ, name, nrdn, dold, nsup, hsup, desc, val, hval, aband⟩ := q
  obtain ⟨xfa, xfc, xfs, xaa, xac, xal, xca, xcc, xcs, xta, xtc, xts, xka, xkc, xks⟩ := L
  obtain ⟨yfa, yfc, yfs, yaa, yac, yal, yca, ycc, ycs, yta, ytc, yts, yka, ykc, yks⟩ := M
  dsimp only [rq] at hS0 ⊢
  obtain ⟨wA, hwA⟩ : ∃ W, w.alloc (.cells #[.int .i64 id, .int .i64 kind, .int .i64 ver, .string bn, .int .i64 meth, .string pass, .string mech, .string cred, .bool hasc, .string base, .int .i64 scope, .int .i64 deref, .int .i64 slim, .int .i64 tlim, .bool typ, .slice yfa yfs.length yfc, .slice yaa yal.length yac, .string name, .slice yca ycs.length ycc, .slice yta yts.length ytc, .string nrdn, .bool dold, .string nsup, .bool hsup, .string desc, .string val, .bool hval, .int .i64 aband, .slice yka yks.length ykc] 36) = W := ⟨_, rfl⟩
  obtain ⟨wB, hwB⟩ : ∃ W, wA.alloc (.cells #[.int .i64 id, .int .i64 kind, .int .i64 ver, .string bn, .int .i64 meth, .string pass, .string mech, .string cred, .bool hasc, .string base, .int .i64 scope, .int .i64 deref, .int .i64 slim, .int .i64 tlim, .bool typ, .slice xfa xfs.length xfc, .slice xaa xal.length xac, .string name, .slice xca xcs.length xcc, .slice xta xts.length xtc, .string nrdn, .bool dold, .string nsup, .bool hsup, .string desc, .string val, .bool hval, .int .i64 aband, .slice xka xks.length xkc] 36) = W := ⟨_, rfl⟩
  have hA : Below w.heap.size w wA := by rw [← hwA]; exact (Below.refl _ _).alloc (Nat.le_refl _) _
  have hB : Below wA.heap.size wA wB := by rw [← hwB]; exact (Below.refl _ _).alloc (Nat.le_refl _) _
  have hAB : Below w.heap.size w wB := hA.trans (hB.mono hA.size)
  have p : Box wB w.heap.size 36 #[.int .i64 id, .int .i64 kind, .int .i64 ver, .string bn, .int .i64 meth, .string pass, .string mech, .string cred, .bool hasc, .string base, .int .i64 scope, .int .i64 deref, .int .i64 slim, .int .i64 tlim, .bool typ, .slice yfa yfs.length yfc, .slice yaa yal.length yac, .string name, .slice yca ycs.length ycc, .slice yta yts.length ytc, .string nrdn, .bool dold, .string nsup, .bool hsup, .string desc, .string val, .bool hval, .int .i64 aband, .slice yka yks.length ykc] := by rw [← hwB]; exact Box.past (by rw [← hwA]; exact Box.new _ _ _) _
  have r : Box wB wA.heap.size 36 #[.int .i64 id, .int .i64 kind, .int .i64 ver, .string bn, .int .i64 meth, .string pass, .string mech, .string cred, .bool hasc, .string base, .int .i64 scope, .int .i64 deref, .int .i64 slim, .int .i64 tlim, .bool typ, .slice xfa xfs.length xfc, .slice xaa xal.length xac, .string name, .slice xca xcs.length xcc, .slice xta xts.length xtc, .string nrdn, .bool dold, .string nsup, .bool hsup, .string desc, .string val, .bool hval, .int .i64 aband, .slice xka xks.length xkc] := by rw [← hwB]; exact Box.new _ _ _
  have hS : Hid (Calls Tryd.prog 21 #[.agg #[.int .i64 id, .int .i64 kind, .int .i64 ver, .string bn, .int .i64 meth, .string pass, .string mech, .string cred, .bool hasc, .string base, .int .i64 scope, .int .i64 deref, .int .i64 slim, .int .i64 tlim, .bool typ, .slice yfa yfs.length yfc, .slice yaa yal.length yac, .string name, .slice yca ycs.length ycc, .slice yta yts.length ytc, .string nrdn, .bool dold, .string nsup, .bool hsup, .string desc, .string val, .bool hval, .int .i64 aband, .slice yka yks.length ykc], .agg #[.int .i64 id, .int .i64 kind, .int .i64 ver, .string bn, .int .i64 meth, .string pass, .string mech, .string cred, .bool hasc, .string base, .int .i64 scope, .int .i64 deref, .int .i64 slim, .int .i64 tlim, .bool typ, .slice xfa xfs.length xfc, .slice xaa xal.length xac, .string name, .slice xca xcs.length xcc, .slice xta xts.length xtc, .string nrdn, .bool dold, .string nsup, .bool hsup, .string desc, .string val, .bool hval, .int .i64 aband, .slice xka xks.length xkc]] wB fun e w' => e = .returned (.bool true) ∧ Below wB.heap.size wB w') := hS0 wB hAB
  obtain ⟨m1, m2, m3, m4, m5⟩ := hm
  have hall : Hid (∀ W, Below wB.heap.size wB W → MkG 9 nV nT zNo W yfa yfc yfs ∧ MkG 3 cV cT zCh W yca ycc ycs ∧ (∀ x ∈ yfs, x.l.length ≤ 8796093021952) ∧ (∀ x ∈ ycs, x.l.length ≤ 8796093021952)) := fun W hb => ⟨(h1.below hAB).below hb |>.1, (h1.below hAB).below hb |>.2.2.1, m1.2, m3.2⟩
  have hsp : Hid (∀ W, Below wB.heap.size wB W → Calls Tryd.prog 22 #[.slice yaa yal.length yac] W fun e w' => e = .returned (.bool true) ∧ W = w') := fun W hb => (spares_any yal yaa yac W m2 ((h1.below hAB).below hb).2.1).mono (fun e w' h => ⟨h.1, h.2.symm⟩)
  have hsa : Hid (∀ W, Below wB.heap.size wB W → Calls Tryd.prog 23 #[.slice yta yts.length ytc] W fun e w' => e = .returned (.bool true) ∧ W = w') := fun W hb => (sparesAttrs_any yts yta ytc W m4.1 m4.2 ((h1.below hAB).below hb).2.2.2.1).mono (fun e w' h => ⟨h.1, h.2.symm⟩)
  have hsc : Hid (∀ W, Below wB.heap.size wB W → Calls Tryd.prog 24 #[.slice yka yks.length ykc] W fun e w' => e = .returned (.bool true) ∧ W = w') := fun W hb => (sparesControls_any yks yka ykc W m5 ((h1.below hAB).below hb).2.2.2.2.1 h1.2.2.2.2.2).mono (fun e w' h => ⟨h.1, h.2.symm⟩)
  have hK : Hid (∀ W, Below wB.heap.size wB W → W.cell? ⟨w.heap.size, 15, none⟩ = some (.slice yfa yfs.length yfc) ∧ W.cell? ⟨w.heap.size, 16, none⟩ = some (.slice yaa yal.length yac) ∧ W.cell? ⟨w.heap.size, 18, none⟩ = some (.slice yca ycs.length ycc) ∧ W.cell? ⟨w.heap.size, 19, none⟩ = some (.slice yta yts.length ytc) ∧ W.cell? ⟨w.heap.size, 28, none⟩ = some (.slice yka yks.length ykc)) := fun W hb => ⟨((p.below hb).cell 15 (by simp)).1, ((p.below hb).cell 16 (by simp)).1, ((p.below hb).cell 18 (by simp)).1, ((p.below hb).cell 19 (by simp)).1, ((p.below hb).cell 28 (by simp)).1⟩
  have lf : yfs.length ≤ 1099511627744 := m1.1
  have lc : ycs.length ≤ 2932031007317 := m3.1
  have cf : yfs.length + 1 ≤ yfc := h1.1.2.1
  have cc : ycs.length + 1 ≤ ycc := h1.2.2.1.2.1
  have hAB' : Hid (Below w.heap.size w wB) := hAB
  clear hS0 hA hB hAB h1 h2 he m1 m2 m3 m4 m5
  go_enter Tryd.func8, Tryd.ntmps8
  go_upto_region 1 with fail
  clear hwA hwB
  go_upto_region 3 with (first | (refine load_req rfl _ rfl w.heap.size rfl p rfl ?_) | (refine load_req rfl _ rfl wA.heap.size rfl r rfl ?_) | (go_at_call 21; refine hS.out.mono ?_; rintro e w1 ⟨rfl, hb1⟩; obtain ⟨k15, k16, k18, k19, k28⟩ := hK.out w1 hb1) | (go_at_call 22; refine (hsp.out w1 hb1).mono ?_; rintro e w2 ⟨rfl, rfl⟩) | (go_at_call 23; refine (hsa.out w1 hb1).mono ?_; rintro e w2 ⟨rfl, rfl⟩) | (go_at_call 24; refine (hsc.out w1 hb1).mono ?_; rintro e w2 ⟨rfl, rfl⟩))
  have hfin : Hid (Below w.heap.size w w1) := hAB'.out.trans (hb1.mono hAB'.out.size)
  obtain ⟨hF, hC, lF, lC⟩ := hall.out w1 hb1
  obtain ⟨bF, oF, rfl, hF0⟩ := hF.1 yfs.length (by simp)
  obtain ⟨bC, oC, rfl, hC0⟩ := hC.1 ycs.length (by simp)
  have hF1 := hF0 2 (by omega)
  have hC1 := hC0 1 (by omega)
  rw [List.getElem_append_right (Nat.le_refl _)] at hF1 hC1
  simp only [Nat.sub_self, List.getElem_cons_zero] at hF1 hC1
  have hF2 : w1.cell? ⟨bF, oF + yfs.length * 9 + 2, none⟩ = some (.string ⟨#[115, 112, 97, 114, 101]⟩) := hF1
  have hC2 : w1.cell? ⟨bC, oC + ycs.length * 3 + 1, none⟩ = some (.string ⟨#[115, 112, 97, 114, 101]⟩) := hC1
  have hF' : Hid (MkG 9 nV nT zNo w1 (some ⟨bF, oF, none⟩) yfc yfs ∧ ∀ x ∈ yfs, x.l.length ≤ 8796093021952) := ⟨hF, lF⟩
  have hC' : Hid (MkG 3 cV cT zCh w1 (some ⟨bC, oC, none⟩) ycc ycs ∧ ∀ x ∈ ycs, x.l.length ≤ 8796093021952) := ⟨hC, lC⟩
  have n0 : (0 : Int) ≤ (yfs.length : Int) := Int.natCast_nonneg _
  have n2 : (yfs.length : Int) < ((yfs.length + 1 : Nat) : Int) := Int.ofNat_lt.2 (Nat.lt_succ_self _)
  have n3 : wrap64 ((yfs.length : Int) + 1) = ((yfs.length + 1 : Nat) : Int) := by
    rw [IntWalk.wrap64_in] <;> omega
  have n4 : (0 : Int) ≤ ((yfs.length + 1 : Nat) : Int) := Int.natCast_nonneg _
  have m0 : (0 : Int) ≤ (ycs.length : Int) := Int.natCast_nonneg _
  have m2 : (ycs.length : Int) < ((ycs.length + 1 : Nat) : Int) := Int.ofNat_lt.2 (Nat.lt_succ_self _)
  have m3 : wrap64 ((ycs.length : Int) + 1) = ((ycs.length + 1 : Nat) : Int) := by
    rw [IntWalk.wrap64_in] <;> omega
  have m4 : (0 : Int) ≤ ((ycs.length + 1 : Nat) : Int) := Int.natCast_nonneg _
  clear hF hC lF lC hF0 hC0 hF1 hC1 hS hsp hsa hsc hK k16 k19 k28 p r hb1 hall hAB'
  generalize hn : yfs.length + 1 = nF at *
  clear hn
  generalize hn : ycs.length + 1 = nC at *
  clear hn
  go_wp2_with fail
  go_loopw [7] (fun iv wr => ∃ i : Nat, i ≤ yfs.length ∧ iv = .int .i64 (i : Int) ∧ Hid (wr = w1)) (fun iv _ => yfs.length - (intOf iv).toNat)
  case atStart => exact ⟨0, Nat.zero_le _, rfl, rfl⟩
  case round =>
    obtain ⟨i, hi, rfl, hw⟩ := hrel
    have hw' := hw.out
    subst hw'
    clear hw
    by_cases hlt : i < yfs.length
    · obtain ⟨b, off, e, h0⟩ := hF'.out.1.1.front i hlt
      injection e with e
      injection e with e1 e2
      subst e1 e2
      have c2 := h0 5 (by omega)
      have hT := hF'.out.1.2.2 _ (List.getElem_mem hlt)
      have hL := hF'.out.2 _ (List.getElem_mem hlt)
      obtain ⟨⟨xd, xo, xs', xv, xi, xa, xn, xl, xf, xr, xb⟩, hx⟩ : ∃ x, yfs[i] = x := ⟨_, rfl⟩
      rw [hx] at c2 hT hL
      have c3 : wr.cell? ⟨bF, oF + i * 9 + 5, none⟩ = some (.slice xa xl.length xn) := c2
      have hC : Hid (Calls Tryd.prog 22 #[.slice xa xl.length xn] wr fun e w' => e = .returned (.bool true) ∧ wr = w') := (spares_any xl xa xn wr hL hT).mono (fun e w' h => ⟨h.1, h.2.symm⟩)
      have i0 : (0 : Int) ≤ (i : Int) := Int.natCast_nonneg _
      have i1 : (i : Int) < (yfs.length : Int) := Int.ofNat_lt.2 hlt
      have hlt' : Hid (i < yfs.length) := hlt
      clear c2 hT hL hx hlt h0 k15 k18 n2 n3 n4 m2 m3 m4 cf cc hF2 hC2
      go_wp2_with (go_at_call 22; refine hC.out.mono ?_; rintro e w' ⟨rfl, rfl⟩)
      go_roundw
      case rel => exact ⟨i + 1, hlt'.out, by simp, by unfold Hid; trivial⟩
      case measure => have := hlt'.out; simp [intOf]; omega
    · have e : i = yfs.length := by omega
      subst e
      have k1 : ¬ (yfs.length : Int) < (yfs.length : Int) := by omega
      obtain ⟨wo, hwo⟩ : ∃ wo, wo = wr := ⟨_, rfl⟩
      subst hwo
      go_wp2_with fail
      go_loopw [10] (fun iv wr => ∃ i : Nat, i ≤ ycs.length ∧ iv = .int .i64 (i : Int) ∧ Hid (wr = wo)) (fun iv _ => ycs.length - (intOf iv).toNat)
      case atStart => exact ⟨0, Nat.zero_le _, rfl, rfl⟩
      case round =>
        obtain ⟨i, hi, rfl, hw⟩ := hrel
        have hw' := hw.out
        subst hw'
        clear hw
        by_cases hlt : i < ycs.length
        · obtain ⟨b, off, e, h0⟩ := hC'.out.1.1.front i hlt
          injection e with e
          injection e with e1 e2
          subst e1 e2
          have c2 := h0 2 (by omega)
          have hT := hC'.out.1.2.2 _ (List.getElem_mem hlt)
          have hL := hC'.out.2 _ (List.getElem_mem hlt)
          obtain ⟨⟨xd, xo, xa, xn, xl⟩, hx⟩ : ∃ x, ycs[i] = x := ⟨_, rfl⟩
          rw [hx] at c2 hT hL
          have c3 : wr.cell? ⟨bC, oC + i * 3 + 2, none⟩ = some (.slice xa xl.length xn) := c2
          have hC : Hid (Calls Tryd.prog 22 #[.slice xa xl.length xn] wr fun e w' => e = .returned (.bool true) ∧ wr = w') := (spares_any xl xa xn wr hL hT).mono (fun e w' h => ⟨h.1, h.2.symm⟩)
          have i0 : (0 : Int) ≤ (i : Int) := Int.natCast_nonneg _
          have i1 : (i : Int) < (ycs.length : Int) := Int.ofNat_lt.2 hlt
          have hlt' : Hid (i < ycs.length) := hlt
          clear c2 hT hL hx hlt h0 k15 k18 n2 n3 n4 m2 m3 m4 cf cc hF2 hC2
          go_wp2_with (go_at_call 22; refine hC.out.mono ?_; rintro e w' ⟨rfl, rfl⟩)
          go_roundw
          case rel => exact ⟨i + 1, hlt'.out, by simp, by unfold Hid; trivial⟩
          case measure => have := hlt'.out; simp [intOf]; omega
        · have e : i = ycs.length := by omega
          subst e
          have k2 : ¬ (ycs.length : Int) < (ycs.length : Int) := by omega
          go_wp2_with fail
          go_ret
          exact ⟨rfl, hfin.out⟩
end Go.Proofs.YtembeinglnojkaaDoor
