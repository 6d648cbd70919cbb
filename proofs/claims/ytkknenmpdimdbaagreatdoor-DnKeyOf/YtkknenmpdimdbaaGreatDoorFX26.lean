import Derived.Test.YtkknenmpdimdbaaGreatDoorFX25
namespace Go.Proofs.YtkknenmpdimdbaaGreatDoor
namespace Pa
open Go.RowKit
open TextMath (fold lo normal check wo unhex)
open Ke (refV tyOk tyC utf PR)
open Du (GOwn GRow Kd append_gen KDp KDx pV pV_len xV xV_len owns_same owns_apart PX)
set_option linter.unusedVariables false
set_option linter.unusedSimpArgs false
set_option maxRecDepth 100000
def PrQ (ev : Nat → TypeId × Value) (s : ByteArray) (b p : Nat) (w : World) (R : PRs) (e : Ending) (w' : World) : Prop :=
 (∃ ps r p' va c v7, R = .ok (ps, r) ∧ e = .returned (.tuple #[.slice va ps.length c, .nilIface]) ∧ PI b s p' (.slice va ps.length c) v7 ps w w' ∧ lf s p' = r ∧ p ≤ p' ∧ p' ≤ s.size ∧ ps.length ≤ 8) ∨
 (∃ k m p', R = .error (k, m) ∧ e = .returned (.tuple #[.slice none 0 0, refV ev k ((s.size - m : Nat) : Int)]) ∧ p' ≤ s.size ∧ Rd w' b s p' ∧ Wb b w w')
theorem PrQ.err {ev : Nat → TypeId × Value} {s : ByteArray} {b p : Nat} {w : World} {k m p' : Nat} {w' : World} (h1 : p' ≤ s.size) (h2 : Rd w' b s p') (h3 : Wb b w w') (n : Nat) : PrQ ev s b p w (.error (k, m)) (.returned (.tuple #[.slice none 0 0, refV ev k ((s.size - m : Nat) : Int)])) (w'.drewN n) := Or.inr ⟨k, m, p', rfl, rfl, h1, h2, h3.trans wb_drew⟩
set_option maxHeartbeats 8000000 in
theorem part_any (hx : List UInt8 → Option VR) (ev : Nat → TypeId × Value) (s : ByteArray) (p b num k0 : Nat) (w : World) (R : PRs) (h : Rd w b s p) (hp : p ≤ s.size) (hs : s.size ≤ 4096) (hE : EvA ev w) (hH : HxOk hx ev s b) (hR : prt hx k0 num [] (lf s p) = some R) (hnum : num ≤ 64) :
  Calls Tryz.prog 57 #[.pointer (some ⟨b, 0, none⟩), .int .i64 (num : Int)] w fun e w' => PrQ ev s b p w R e w' := by
 have h' : Hid (Rd w b s p ∧ s.size ≤ 4096 ∧ EvA ev w ∧ HxOk hx ev s b) := ⟨h, hs, hE, hH⟩
 have h0 : Hid (PI b s p (.slice none 0 0) (.slice none 0 0) [] w w ∧ prt hx k0 num [] (lf s p) = some R ∧ p ≤ s.size) := ⟨⟨GOwn.nil _ _ _ _ _, ownS_nil _ _, h, Wb.refl _ _, h.lt⟩, hR, hp⟩
 have m0 : (0 : Int) ≤ (num : Int) := Int.natCast_nonneg _
 have m64 : (num : Int) ≤ 64 := by omega
 clear h hp hs hE hH hR
 go_enter Tryz.func57, Tryz.ntmps57
 go_wp2_with fail
 go_loopw [6, 7] (fun xv yv wr => ∃ (q k n c m d : Nat) (va ta : Option Addr) (ps : List PR), xv = .slice va n c ∧ yv = .slice ta m d ∧ Hid (PI b s q (.slice va n c) (.slice ta m d) ps w wr ∧ n = ps.length ∧ m = ps.length ∧ n ≤ 8 ∧ p ≤ q ∧ q ≤ s.size ∧ prt hx k num ps (lf s q) = some R)) (fun _ _ wr => s.size - plc b wr)
 case atStart => exact ⟨p, k0, 0, 0, 0, 0, none, none, [], rfl, rfl, h0.out.1, rfl, rfl, by omega, Nat.le_refl _, h0.out.2.2, h0.out.2.1⟩
 case round =>
  obtain ⟨q, k, n, c, m, d, va, ta, ps, rfl, rfl, hQ⟩ := hrel
  clear h0
  have n0 : (0 : Int) ≤ (n : Int) := Int.natCast_nonneg _
  have n8 : (n : Int) ≤ 8 := by have := hQ.out.2.2.2.1; omega
  obtain ⟨f, rfl⟩ : ∃ f, k = f + 1 := by
   cases k with
   | zero => have := hQ.out.2.2.2.2.2.2; cases this
   | succ f => exact ⟨f, rfl⟩
  have hinv := prt_inv hQ.out.2.2.2.2.2.2
  have hplc : Hid (plc b wr = q) := plc_eq hQ.out.1.2.2.1
  have hSk : Hid (Calls Tryz.prog 87 #[.pointer (some ⟨b, 0, none⟩)] wr fun e w' => e = .returned (.tuple #[]) ∧ SkQ s q b wr w') := skip_any s q b wr hQ.out.1.2.2.1 hQ.out.2.2.2.2.2.1 h'.out.2.1
  have hinv' : Hid (((num = 64 ∨ ps.length = 8) ∧ R = .error (58, (sp (lf s q)).length)) ∨ (¬ (num = 64 ∨ ps.length = 8) ∧
   ((∃ e, pt (ps.map fun p : PR => tyC p.1) (sp (lf s q)) = .error e ∧ R = .error e) ∨
   (∃ x, pt (ps.map fun p : PR => tyC p.1) (sp (lf s q)) = .ok x ∧ ((∃ e, pv hx x.2 = some (.error e) ∧ R = .error e) ∨
    (∃ y, pv hx x.2 = some (.ok y) ∧ ((y.2.head? = some 43 ∧ prt hx f num (ps ++ [(x.1, y.1)]) (y.2.drop 1) = some R) ∨ (y.2.head? ≠ some 43 ∧ R = .ok (ps ++ [(x.1, y.1)], y.2)))))))) ) := hinv
  clear hinv
  go_wp2_with fail
  refine hSk.out.mono ?_
  rintro e w1 ⟨rfl, q1, hl1, hq1, hq1s, hr1, hw1⟩
  have hI1 : Hid (PI b s q1 (.slice va n c) (.slice ta m d) ps w w1 ∧ q ≤ q1 ∧ q1 ≤ s.size ∧ lf s q1 = sp (lf s q)) := ⟨hQ.out.1.wb hw1 hr1, hq1, hq1s, hl1⟩
  have hnl : Hid (n = ps.length ∧ m = ps.length ∧ n ≤ 8 ∧ p ≤ q) := ⟨hQ.out.2.1, hQ.out.2.2.1, hQ.out.2.2.2.1, hQ.out.2.2.2.2.1⟩
  clear hSk hl1 hq1 hq1s hr1 hw1 hQ
  rw [← hI1.out.2.2.2] at hinv'
  rcases hinv'.out with ⟨hw, hRe⟩ | ⟨hw, hrest⟩
  ·
   obtain ⟨d0, d1, d2⟩ := hI1.out.1.2.2.1.cells
   obtain ⟨et, het⟩ : ∃ et, ev 58 = et := ⟨_, rfl⟩
   have hgc : w1.cell? ⟨8, 0, none⟩ = some (.iface et.1 et.2) := by
    have h1 := (h'.out.2.2.1.wb h'.out.1 hI1.out.1.2.2.2.1) (58, 8) (by decide)
    rw [het] at h1
    exact h1
   have hql : (((s.size - (lf s q1).length : Nat) : Int)) = (q1 : Int) := by rw [lf_len]; have := hI1.out.2.2.1; omega
   have hfin : Hid (∀ i, PrQ ev s b p w R (.returned (.tuple #[.slice none 0 0, .iface 69 (.agg #[.iface et.1 et.2, .int .i64 (q1 : Int)])])) (w1.drewN i)) := fun i => by
    have h1 := PrQ.err (ev := ev) (p := p) (w := w) (k := 58) (m := (lf s q1).length) hI1.out.2.2.1 hI1.out.1.2.2.1 hI1.out.1.2.2.2.1 i
    rw [hql] at h1
    rw [hRe, ← het]
    exact h1
   have hw' : Hid (num = 64 ∨ n = 8) := by unfold Hid; rw [hnl.out.1]; exact hw
   clear hinv' hRe het hql hw hI1 hplc
   by_cases h64 : num = 64
   ·have g1 : ((num : Int) == 64) = true := by rw [h64]; rfl
    clear h64 hw'
    go_wp2_with fail
    go_quiet (fail)
    go_wp2_with fail
    go_ret2
    exact hfin.out _
   ·have g1 : ((num : Int) == 64) = false := by rw [beq_eq_false_iff_ne]; omega
    have g2 : ((n : Int) == 8) = true := by rw [hw'.out.resolve_left h64]; rfl
    clear h64 hw'
    go_wp2_with fail
    go_quiet (fail)
    go_wp2_with fail
    go_ret2
    exact hfin.out _
  ·have g1 : ((num : Int) == 64) = false := by rw [beq_eq_false_iff_ne]; have : num ≠ 64 := fun e => hw (Or.inl e); omega
   have g2 : ((n : Int) == 8) = false := by rw [beq_eq_false_iff_ne]; have : ps.length ≠ 8 := fun e => hw (Or.inr e); have := hnl.out.1; omega
   have hpT : Hid (Calls Tryz.prog 88 #[.pointer (some ⟨b, 0, none⟩), .slice ta m d] w1 fun e w' => PQ ev s b q1 w1 (pt (ps.map fun p : PR => tyC p.1) (lf s q1)) e w') :=
    pairType_any ev s q1 b ta m d (ps.map fun p : PR => tyC p.1) w1 hI1.out.1.2.2.1 hI1.out.2.2.1 h'.out.2.1 (h'.out.2.2.1.wb h'.out.1 hI1.out.1.2.2.2.1) (hI1.out.1.rows rfl) (by rw [List.length_map]; exact hnl.out.2.1.symm) (by have := hnl.out.2.1; have := hnl.out.1; have := hnl.out.2.2.1; omega)
   have hw' : Hid (¬ (num = 64 ∨ ps.length = 8)) := hw
   have hrest' : Hid ((∃ e, pt (ps.map fun p : PR => tyC p.1) (lf s q1) = .error e ∧ R = .error e) ∨
   (∃ x, pt (ps.map fun p : PR => tyC p.1) (lf s q1) = .ok x ∧ ((∃ e, pv hx x.2 = some (.error e) ∧ R = .error e) ∨
    (∃ y, pv hx x.2 = some (.ok y) ∧ ((y.2.head? = some 43 ∧ prt hx f num (ps ++ [(x.1, y.1)]) (y.2.drop 1) = some R) ∨ (y.2.head? ≠ some 43 ∧ R = .ok (ps ++ [(x.1, y.1)], y.2))))))) := hrest
   clear hinv' hrest hw
   go_wp2_with fail
   refine hpT.out.mono ?_
   rintro e w2 hp2
   rcases hp2 with ⟨t, r2, q2, hpt, rfl, hl2, hq2, hq2s, htl, htok, hr2, hw2⟩ | ⟨k2, m2, q2, hpt, rfl, hq2s, hr2, hw2⟩
   ·have hcase : (∃ V : VR, pv hx r2 = some V ∧ ((∃ e, V = .error e ∧ R = .error e) ∨ (∃ y : List UInt8 × List UInt8, V = .ok y ∧ ((y.2.head? = some 43 ∧ prt hx f num (ps ++ [(t, y.1)]) (y.2.drop 1) = some R) ∨ (y.2.head? ≠ some 43 ∧ R = .ok (ps ++ [(t, y.1)], y.2)))))) := by
     rcases hrest'.out with ⟨e, h1, h2⟩ | ⟨x, h1, h2⟩
     ·rw [hpt] at h1; cases h1
     ·rw [hpt] at h1
      injection h1 with h1
      subst h1
      rcases h2 with ⟨e, h3, h4⟩ | ⟨y, h3, h4⟩
      ·exact ⟨_, h3, Or.inl ⟨e, rfl, h4⟩⟩
      ·exact ⟨_, h3, Or.inr ⟨y, rfl, h4⟩⟩
    obtain ⟨V, hpv, hVc⟩ := hcase
    have hVc' : Hid ((∃ e, V = .error e ∧ R = .error e) ∨ (∃ y : List UInt8 × List UInt8, V = .ok y ∧ ((y.2.head? = some 43 ∧ prt hx f num (ps ++ [(t, y.1)]) (y.2.drop 1) = some R) ∨ (y.2.head? ≠ some 43 ∧ R = .ok (ps ++ [(t, y.1)], y.2))))) := hVc
    have hI2 : Hid (PI b s q2 (.slice va n c) (.slice ta m d) ps w w2 ∧ q1 ≤ q2 ∧ q2 ≤ s.size ∧ q ≤ q1) := ⟨hI1.out.1.wb hw2 hr2, hq2, hq2s, hI1.out.2.1⟩
    have hpV : Hid (Calls Tryz.prog 89 #[.pointer (some ⟨b, 0, none⟩)] w2 fun e w' => VQ ev s b q2 w2 V e w') := pairValue_any hx ev s q2 b w2 V hr2 hq2s h'.out.2.1 (h'.out.2.2.1.wb h'.out.1 hI2.out.1.2.2.2.1) h'.out.2.2.2 (by rw [hl2]; exact hpv)
    obtain ⟨st, hst⟩ : ∃ st, S t = st := ⟨_, rfl⟩
    obtain ⟨sc, hsc⟩ : ∃ sc, S (tyC t) = sc := ⟨_, rfl⟩
    have hss : Hid (S t = st ∧ S (tyC t) = sc) := ⟨hst, hsc⟩
    rw [hst, hsc]
    clear hVc hpv hl2 hq2 hq2s hr2 hw2 hI1 hrest' hpt hpT htl htok hst hsc
    go_wp2_with fail
    refine hpV.out.mono ?_
    rintro e w3 hv
    rcases hv with ⟨v, r3, q3, hVe, rfl, hl3, hq3, hq3s, hvl, hr3, hw3⟩ | ⟨k3, m3, q3, hVe, rfl, hq3s, hr3, hw3⟩
    ·have hmore : (r3.head? = some 43 ∧ prt hx f num (ps ++ [(t, v)]) (r3.drop 1) = some R) ∨ (r3.head? ≠ some 43 ∧ R = .ok (ps ++ [(t, v)], r3)) := by
      rcases hVc'.out with ⟨e, h1, h2⟩ | ⟨y, h1, h2⟩
      ·rw [hVe] at h1; cases h1
      ·rw [hVe] at h1
       injection h1 with h1
       subst h1
       exact h2
     have hmore' : Hid ((r3.head? = some 43 ∧ prt hx f num (ps ++ [(t, v)]) (r3.drop 1) = some R) ∨ (r3.head? ≠ some 43 ∧ R = .ok (ps ++ [(t, v)], r3))) := hmore
     have hps8 : Hid (ps.length < 8) := by
      have h1 := hw'.out
      have h2 := hnl.out.1
      have h3 := hnl.out.2.2.1
      unfold Hid
      rcases Nat.lt_or_ge ps.length 8 with h | h
      ·exact h
      ·exact absurd (Or.inr (by omega)) h1
     obtain ⟨xa, xn, xc, w4, e4, ya, ym, yd, w5, e5, hI5, hxn⟩ := (hI2.out.1.wb hw3 hr3).pair t v (by have := hps8.out; omega)
     have hI5' : Hid (PI b s q3 (.slice xa xn xc) (.slice ya ym yd) (ps ++ [(t, v)]) w w5 ∧ xn = ps.length + 1 ∧ q2 ≤ q3 ∧ q3 ≤ s.size ∧ lf s q3 = r3) := ⟨hI5, hxn, hq3, hq3s, hl3⟩
     rw [hss.out.1] at e4
     rw [hss.out.2] at e5
     obtain ⟨sx, hsx⟩ : ∃ sx, S v = sx := ⟨_, rfl⟩
     rw [hsx] at e4 ⊢
     have hTk : Hid (Calls Tryz.prog 58 #[.pointer (some ⟨b, 0, none⟩), .int .u8 43] w5 fun e w' => TkQ 43 s q3 b w5 e w') := take_any 43 s q3 b w5 hI5.2.2.1 hq3s h'.out.2.1
     clear hmore hVe hl3 hq3 hq3s hvl hr3 hw3 hI5 hxn hsx hpV hVc'
     go_wp2_with (first
      | (at_builtin; refine Lib.wpList_append_run _ rfl _ _ _ _ rfl _ _ rfl rfl _ _ e4 ?_; clear e4)
      | (at_builtin; refine Lib.wpList_append_run _ rfl _ _ _ _ rfl _ _ rfl rfl _ _ e5 ?_; clear e5))
     refine hTk.out.mono ?_
     rintro e w6 hq6
     rcases hq6 with ⟨hh, hlt, rfl, hr6, hw6⟩ | ⟨hh, rfl, hr6, hw6⟩
     ·have hfin : Hid (PI b s (q3 + 1) (.slice xa xn xc) (.slice ya ym yd) (ps ++ [(t, v)]) w w6 ∧ xn = (ps ++ [(t, v)]).length ∧ ym = (ps ++ [(t, v)]).length ∧ xn ≤ 8 ∧ p ≤ q3 + 1 ∧ q3 + 1 ≤ s.size ∧ prt hx f num (ps ++ [(t, v)]) (lf s (q3 + 1)) = some R) := by
       have hI6 := hI5'.out.1.wb hw6 hr6
       have hym : ym = (ps ++ [(t, v)]).length := by
        obtain ⟨_, ta', tc', e⟩ := hI6.forms
        injection e
       refine ⟨hI6, by rw [hI5'.out.2.1]; simp, hym, by rw [hI5'.out.2.1]; have := hps8.out; omega, by have := hnl.out.2.2.2; have := hI2.out.2; have := hI5'.out.2.2.1; omega, hlt, ?_⟩
       rcases hmore'.out with ⟨_, h2⟩ | ⟨h2, _⟩
       ·rw [← hI5'.out.2.2.2.2, lf_drop] at h2
        exact h2
       ·rw [← hI5'.out.2.2.2.2] at h2
        exact absurd hh h2
      have hms : Hid (s.size - plc b w6 < s.size - plc b wr) := by
       have e1 := plc_eq hfin.out.1.2.2.1
       have e2 := hplc.out
       have e3 := hI2.out.2
       have e4 := hI5'.out.2.2.1
       unfold Hid
       rw [e1, e2]
       omega
      clear hTk hh hlt hr6 hw6 hmore' hI5'
      go_wp2_with fail
      go_roundw
      case rel => exact ⟨q3 + 1, f, xn, xc, ym, yd, xa, ya, ps ++ [(t, v)], rfl, rfl, hfin⟩
      case measure => exact hms.out
     ·have hfin : Hid (PrQ ev s b p w R (.returned (.tuple #[.slice xa xn xc, .nilIface])) w6) := by
       have hI6 := hI5'.out.1.wb hw6 hr6
       have hxn : xn = (ps ++ [(t, v)]).length := by rw [hI5'.out.2.1]; simp
       rcases hmore'.out with ⟨h2, _⟩ | ⟨_, h2⟩
       ·rw [← hI5'.out.2.2.2.2] at h2
        exact absurd h2 hh
       ·subst hxn
        exact Or.inl ⟨ps ++ [(t, v)], r3, q3, xa, xc, _, h2, rfl, hI6, hI5'.out.2.2.2.2, by have := hnl.out.2.2.2; have := hI2.out.2; have := hI5'.out.2.2.1; omega, hI5'.out.2.2.2.1, by rw [List.length_append]; have := hps8.out; simp; omega⟩
      clear hTk hh hr6 hw6 hmore' hI5'
      go_wp2_with fail
      go_ret2
      exact hfin.out
    ·have hfin : Hid (PrQ ev s b p w R (.returned (.tuple #[.slice none 0 0, refV ev k3 ((s.size - m3 : Nat) : Int)])) w3) := by
      rcases hVc'.out with ⟨e, h1, h2⟩ | ⟨y, h1, _⟩
      ·rw [hVe] at h1
       injection h1 with h1
       rw [h2, ← h1]
       exact Or.inr ⟨k3, m3, q3, rfl, rfl, hq3s, hr3, hI2.out.1.2.2.2.1.trans hw3⟩
      ·rw [hVe] at h1; cases h1
     obtain ⟨tt, u, hrv⟩ : ∃ t u, refV ev k3 ((s.size - m3 : Nat) : Int) = .iface t u := ⟨_, _, rfl⟩
     rw [hrv] at hfin ⊢
     clear hVe hq3s hr3 hw3 hrv hpV hVc'
     go_wp2_with fail
     go_ret2
     exact hfin.out
   ·have hfin : Hid (PrQ ev s b p w R (.returned (.tuple #[.slice none 0 0, refV ev k2 ((s.size - m2 : Nat) : Int)])) w2) := by
     rcases hrest'.out with ⟨e, h1, h2⟩ | ⟨x, h1, _⟩
     ·rw [hpt] at h1
      injection h1 with h1
      rw [h2, ← h1]
      exact Or.inr ⟨k2, m2, q2, rfl, rfl, hq2s, hr2, hI1.out.1.2.2.2.1.trans hw2⟩
     ·rw [hpt] at h1; cases h1
    obtain ⟨t, u, hrv⟩ : ∃ t u, refV ev k2 ((s.size - m2 : Nat) : Int) = .iface t u := ⟨_, _, rfl⟩
    rw [hrv] at hfin ⊢
    clear hpt hq2s hr2 hw2 hrv hpT hrest' hI1
    go_wp2_with fail
    go_ret2
    exact hfin.out
end Pa
end Go.Proofs.YtkknenmpdimdbaaGreatDoor

namespace Go.Proofs.YtkknenmpdimdbaaGreatDoor
namespace Pa
open Go.RowKit
open TextMath (fold lo normal check wo unhex)
open Ke (refV tyOk tyC utf PR check_ty)
open Du (GOwn GRow Kd append_gen KDp KDx pV pV_len xV xV_len owns_same owns_apart owns_base PX DRow sd)
set_option linter.unusedVariables false
set_option linter.unusedSimpArgs false
set_option maxRecDepth 100000
theorem nm_inv {hx : List UInt8 → Option VR} {m : Nat} {D : List (List PR)} {l : List UInt8} {R : DRs} (h : nmP hx (m + 1) D l = some R) :
  ∃ P : PRs, prt hx 9 D.length [] l = some P ∧ ((∃ e, P = .error e ∧ R = .error e) ∨ (∃ x : List PR × List UInt8, P = .ok x ∧ ((x.2.head? = some 44 ∧ nmP hx m (D ++ [x.1]) (x.2.drop 1) = some R) ∨ (x.2.head? ≠ some 44 ∧ R = .ok (D ++ [x.1]))))) := by
 unfold nmP at h
 cases hp : prt hx 9 D.length [] l with
 | none => rw [hp] at h; cases h
 | some P =>
  rw [hp] at h
  refine ⟨P, rfl, ?_⟩
  cases P with
  | error e => injection h with h; exact Or.inl ⟨e, rfl, h.symm⟩
  | ok x =>
   dsimp only at h
   refine Or.inr ⟨x, rfl, ?_⟩
   by_cases hh : x.2.head? = some 44
   ·rw [if_pos hh] at h
    exact Or.inl ⟨hh, h⟩
   ·rw [if_neg hh] at h
    injection h with h
    exact Or.inr ⟨hh, h.symm⟩
def NI (b : Nat) (s : ByteArray) (q : Nat) (v : Value) (Ls : List PX) (w W : World) : Prop :=
 GOwn 57 1 xV W w.heap.size v Ls ∧ (∀ r ∈ Ls, GOwn 64 2 pV W w.heap.size (.slice r.1 r.2.2.length r.2.1) r.2.2) ∧ Rd W b s q ∧ Wb b w W ∧ b < w.heap.size
variable {b q q' : Nat} {s : ByteArray} {v : Value} {Ls : List PX} {w W W' : World}
theorem NI.wb (h : NI b s q v Ls w W) (hw : Wb b W W') (hr : Rd W' b s q') : NI b s q' v Ls w W' :=
 ⟨owns_wb (show W.ownsRow _ _ _ _ _ _ from h.1) hw h.2.2.2.2, fun r hr => owns_wb (show W.ownsRow _ _ _ _ _ _ from h.2.1 r hr) hw h.2.2.2.2, hr, h.2.2.2.1.trans hw, h.2.2.2.2⟩
theorem NI.drow (h : NI b s q v Ls w W) {va : Option Addr} {n c : Nat} (hv : v = .slice va n c) : DRow W va Ls ∧ n = Ls.length := by
 obtain ⟨a, c', e, _, _, hr⟩ := h.1.row xV_len
 rw [hv] at e
 injection e with e1 e2 e3
 subst e1
 refine ⟨⟨hr, fun r hr => ?_⟩, e2⟩
 obtain ⟨a2, c2, f, g1, g2, g3⟩ := (h.2.1 r hr).row pV_len
 injection f with f1 _ f3
 rw [← f1] at g3
 rw [← f3] at g1 g2
 exact ⟨g3, g1, g2⟩
theorem NI.part (h : NI b s q v Ls w W) (xa : Option Addr) (xc : Nat) (ps : List PR) (ho : GOwn 64 2 pV W w.heap.size (.slice xa ps.length xc) ps) (hl : Ls.length ≤ 64) :
  ∃ va n c w', (Builtin.append_ #[23, 23] 23 #[v, .slice (some ⟨W.heap.size, 0, none⟩) 1 1]).run Tryz.prog (W.alloc (.cells #[.slice xa ps.length xc] 57)) = .ok (.slice va n c) w' ∧ NI b s q (.slice va n c) (Ls ++ [((xa, xc, ps) : PX)]) w w' ∧ n = Ls.length + 1 := by
 obtain ⟨h1, h2, h3, h4, h5⟩ := h
 have hsz : w.heap.size ≤ W.heap.size := h4.size
 have ba : Below W.heap.size W (W.alloc (.cells #[.slice xa ps.length xc] 57)) := (Below.refl _ _).alloc (Nat.le_refl _) _
 obtain ⟨v1, w1, e1, o1, g1, b1⟩ := append_gen KDx (W.alloc (.cells #[.slice xa ps.length xc] 57)) w.heap.size v Ls [((xa, xc, ps) : PX)] (some ⟨W.heap.size, 0, none⟩) 1 1 (h1.below ba) (GRow.one xV W 57 ((xa, xc, ps) : PX)) rfl (Nat.le_trans hsz ba.size) (by simp; omega)
 obtain ⟨va, c, rfl, _⟩ := o1.row xV_len
 have keep : ∀ {u : Value} {l : List PR}, GOwn 64 2 pV W w.heap.size u l → GOwn 64 2 pV w1 w.heap.size u l := fun {u l} hu => by
  have hua := hu.below ba
  exact owns_same (show World.ownsRow _ _ _ _ _ _ _ from hua) (fun g hg => g1.block g (World.ownsRow.lt (show World.ownsRow _ _ _ _ _ _ _ from hua) g hg).2 (fun e => owns_apart (show World.ownsRow _ _ 64 _ _ _ _ from hua) (show World.ownsRow _ _ 57 _ _ _ _ from h1.below ba) (by decide) hg e.symm))
 have bw1 : Below w.heap.size W w1 := (ba.mono hsz).trans b1
 refine ⟨va, _, c, w1, e1, ⟨o1, fun r hr => ?_, h3.of (bw1.block b h5), ⟨h4.1.trans (bw1.mono (Nat.le_of_lt h5)), fun k hk hkb => by rw [bw1.block k hk]; exact h4.2 k hk hkb⟩, h5⟩, by simp⟩
 rcases List.mem_append.1 hr with hr | hr
 ·exact keep (h2 r hr)
 ·rw [List.mem_singleton] at hr
  subst hr
  exact keep ho
def NQ (ev : Nat → TypeId × Value) (s : ByteArray) (b : Nat) (w : World) (R : DRs) (e : Ending) (w' : World) : Prop :=
 (∃ D va c Ls, R = .ok D ∧ e = .returned (.tuple #[.slice va D.length c, .nilIface]) ∧ DRow w' va Ls ∧ sd Ls = D ∧ Wb b w w') ∨
 (∃ k m, R = .error (k, m) ∧ e = .returned (.tuple #[.slice none 0 0, refV ev k ((s.size - m : Nat) : Int)]) ∧ Wb b w w')
set_option maxHeartbeats 8000000 in
theorem name_any (hx : List UInt8 → Option VR) (ev : Nat → TypeId × Value) (s : ByteArray) (p b : Nat) (w : World) (R : DRs) (h : Rd w b s p) (hp : p ≤ s.size) (hs : s.size ≤ 4096) (hE : EvA ev w) (hH : HxOk hx ev s b) (hR : nmP hx 65 [] (lf s p) = some R) :
  Calls Tryz.prog 30 #[.pointer (some ⟨b, 0, none⟩)] w fun e w' => NQ ev s b w R e w' := by
 have h' : Hid (Rd w b s p ∧ s.size ≤ 4096 ∧ EvA ev w ∧ HxOk hx ev s b) := ⟨h, hs, hE, hH⟩
 have h0 : Hid (NI b s p (.slice none 0 0) [] w w ∧ nmP hx 65 [] (lf s p) = some R ∧ p ≤ s.size) := ⟨⟨GOwn.nil _ _ _ _ _, (fun r hr => by cases hr), h, Wb.refl _ _, h.lt⟩, hR, hp⟩
 clear h hp hs hE hH hR
 go_enter Tryz.func30, Tryz.ntmps30
 go_wp2_with fail
 go_loopw [4] (fun xv wr => ∃ (q k n c : Nat) (va : Option Addr) (Ls : List PX), xv = .slice va n c ∧ Hid (NI b s q (.slice va n c) Ls w wr ∧ n = Ls.length ∧ n + k = 65 ∧ q ≤ s.size ∧ nmP hx k (sd Ls) (lf s q) = some R)) (fun _ wr => s.size - plc b wr)
 case atStart => exact ⟨p, 65, 0, 0, none, [], rfl, h0.out.1, rfl, rfl, h0.out.2.2, h0.out.2.1⟩
 case round =>
  obtain ⟨q, k, n, c, va, Ls, rfl, hQ⟩ := hrel
  clear h0
  have n0 : (0 : Int) ≤ (n : Int) := Int.natCast_nonneg _
  have n8 : (n : Int) ≤ 65 := by have := hQ.out.2.2.1; omega
  obtain ⟨f, rfl⟩ : ∃ f, k = f + 1 := by
   cases k with
   | zero => have := hQ.out.2.2.2.2; cases this
   | succ f => exact ⟨f, rfl⟩
  obtain ⟨P, hP, hPc⟩ := nm_inv hQ.out.2.2.2.2
  have hPc' : Hid ((∃ e, P = .error e ∧ R = .error e) ∨ (∃ x : List PR × List UInt8, P = .ok x ∧ ((x.2.head? = some 44 ∧ nmP hx f (sd Ls ++ [x.1]) (x.2.drop 1) = some R) ∨ (x.2.head? ≠ some 44 ∧ R = .ok (sd Ls ++ [x.1]))))) := hPc
  have hplc : Hid (plc b wr = q) := plc_eq hQ.out.1.2.2.1
  have hpt : Hid (Calls Tryz.prog 57 #[.pointer (some ⟨b, 0, none⟩), .int .i64 (n : Int)] wr fun e w' => PrQ ev s b q wr P e w') :=
   part_any hx ev s q b n 9 wr P hQ.out.1.2.2.1 hQ.out.2.2.2.1 h'.out.2.1 (h'.out.2.2.1.wb h'.out.1 hQ.out.1.2.2.2.1) h'.out.2.2.2 (by rw [Du.sd_len, ← hQ.out.2.1] at hP; exact hP) (by have := hQ.out.2.2.1; omega)
  clear hP hPc
  go_wp2_with fail
  refine hpt.out.mono ?_
  rintro e w1 hp1
  rcases hp1 with ⟨ps, r, q1, xa, xc, v7, hPe, rfl, hI, hl1, hq1, hq1s, hp8⟩ | ⟨k1, m1, q1, hPe, rfl, hq1s, hr1, hw1⟩
  ·have hmore : Hid ((r.head? = some 44 ∧ nmP hx f (sd Ls ++ [ps]) (r.drop 1) = some R) ∨ (r.head? ≠ some 44 ∧ R = .ok (sd Ls ++ [ps]))) := by
    rcases hPc'.out with ⟨e, h1, h2⟩ | ⟨y, h1, h2⟩
    ·rw [hPe] at h1; cases h1
    ·rw [hPe] at h1
     injection h1 with h1
     subst h1
     exact h2
   have hN1 : Hid (NI b s q1 (.slice va n c) Ls w w1 ∧ q ≤ q1 ∧ q1 ≤ s.size ∧ lf s q1 = r ∧ n = Ls.length ∧ n + (f + 1) = 65) := ⟨hQ.out.1.wb hI.2.2.2.1 hI.2.2.1, hq1, hq1s, hl1, hQ.out.2.1, hQ.out.2.2.1⟩
   obtain ⟨ya, yn, yc, w2, e2, hN2, hyn⟩ := hN1.out.1.part xa xc ps (owns_base hI.1 hQ.out.1.2.2.2.1.size) (by have := hN1.out.2.2.2.2.1; have := hN1.out.2.2.2.2.2; omega)
   have hN2' : Hid (NI b s q1 (.slice ya yn yc) (Ls ++ [((xa, xc, ps) : PX)]) w w2 ∧ yn = Ls.length + 1) := ⟨hN2, hyn⟩
   have hsd : Hid (sd (Ls ++ [((xa, xc, ps) : PX)]) = sd Ls ++ [ps]) := by unfold Hid; simp [sd]
   have hTk : Hid (Calls Tryz.prog 58 #[.pointer (some ⟨b, 0, none⟩), .int .u8 44] w2 fun e w' => TkQ 44 s q1 b w2 e w') := take_any 44 s q1 b w2 hN2.2.2.1 hq1s h'.out.2.1
   obtain ⟨pn, hpn⟩ : ∃ z, ps.length = z := ⟨_, rfl⟩
   rw [hpn] at e2 ⊢
   clear hPe hI hl1 hq1 hq1s hp8 hN2 hyn hpn hQ hpt hPc'
   go_wp2_with (at_builtin; refine Lib.wpList_append_run _ rfl _ _ _ _ rfl _ _ rfl rfl _ _ e2 ?_; clear e2)
   refine hTk.out.mono ?_
   rintro e w3 hq3
   rcases hq3 with ⟨hh, hlt, rfl, hr3, hw3⟩ | ⟨hh, rfl, hr3, hw3⟩
   ·have hfin : Hid (NI b s (q1 + 1) (.slice ya yn yc) (Ls ++ [((xa, xc, ps) : PX)]) w w3 ∧ yn = (Ls ++ [((xa, xc, ps) : PX)]).length ∧ yn + f = 65 ∧ q1 + 1 ≤ s.size ∧ nmP hx f (sd (Ls ++ [((xa, xc, ps) : PX)])) (lf s (q1 + 1)) = some R) := by
     refine ⟨hN2'.out.1.wb hw3 hr3, by rw [hN2'.out.2]; simp, by have := hN2'.out.2; have := hN1.out.2.2.2.2.1; have := hN1.out.2.2.2.2.2; omega, hlt, ?_⟩
     rcases hmore.out with ⟨_, h2⟩ | ⟨h2, _⟩
     ·rw [← hN1.out.2.2.2.1, lf_drop] at h2
      rw [hsd.out]
      exact h2
     ·rw [← hN1.out.2.2.2.1] at h2
      exact absurd hh h2
    have hms : Hid (s.size - plc b w3 < s.size - plc b wr) := by
     have e1 := plc_eq hfin.out.1.2.2.1
     have e2 := hplc.out
     have e3 := hN1.out.2.1
     unfold Hid
     rw [e1, e2]
     omega
    clear hTk hh hlt hr3 hw3 hmore hN2' hN1
    go_wp2_with fail
    go_roundw
    case rel => exact ⟨q1 + 1, f, yn, yc, ya, _, rfl, hfin⟩
    case measure => exact hms.out
   ·have hfin : Hid (NQ ev s b w R (.returned (.tuple #[.slice ya yn yc, .nilIface])) w3) := by
     have hN3 := hN2'.out.1.wb hw3 hr3
     obtain ⟨hd3, hn3⟩ := hN3.drow rfl
     rcases hmore.out with ⟨h2, _⟩ | ⟨_, h2⟩
     ·rw [← hN1.out.2.2.2.1] at h2
      exact absurd h2 hh
     ·refine Or.inl ⟨sd Ls ++ [ps], ya, yc, _, h2, ?_, hd3, hsd.out, hN3.2.2.2.1⟩
      rw [hn3, List.length_append, List.length_append, Du.sd_len]
      rfl
    clear hTk hh hr3 hw3 hmore hN2' hN1
    go_wp2_with fail
    go_ret2
    exact hfin.out
  ·have hfin : Hid (NQ ev s b w R (.returned (.tuple #[.slice none 0 0, refV ev k1 ((s.size - m1 : Nat) : Int)])) w1) := by
    rcases hPc'.out with ⟨e, h1, h2⟩ | ⟨y, h1, _⟩
    ·rw [hPe] at h1
     injection h1 with h1
     rw [h2, ← h1]
     exact Or.inr ⟨k1, m1, rfl, rfl, hQ.out.1.2.2.2.1.trans hw1⟩
    ·rw [hPe] at h1; cases h1
   obtain ⟨t, u, hrv⟩ : ∃ t u, refV ev k1 ((s.size - m1 : Nat) : Int) = .iface t u := ⟨_, _, rfl⟩
   rw [hrv] at hfin ⊢
   clear hPe hq1s hr1 hw1 hrv hpt hPc' hQ
   go_wp2_with fail
   go_ret2
   exact hfin.out
end Pa
end Go.Proofs.YtkknenmpdimdbaaGreatDoor

namespace Go.Proofs.YtkknenmpdimdbaaGreatDoor
namespace Pa
open Go.RowKit
open TextMath (fold lo normal check wo unhex)
open Ke (refV tyOk tyC utf PR check_ty)
open Du (PX DRow sd)
set_option linter.unusedVariables false
set_option linter.unusedSimpArgs false
set_option maxRecDepth 100000
def PsQ (ev : Nat → TypeId × Value) (n : Nat) (w : World) (R : DRs) (e : Ending) (w' : World) : Prop :=
 Below w.heap.size w w' ∧ ((∃ D va c Ls, R = .ok D ∧ e = .returned (.tuple #[.slice va D.length c, .nilIface]) ∧ DRow w' va Ls ∧ sd Ls = D) ∨
 (∃ k m, R = .error (k, m) ∧ e = .returned (.tuple #[.slice none 0 0, refV ev k ((n - m : Nat) : Int)])))
theorem PsQ.drew {ev : Nat → TypeId × Value} {n : Nat} {w : World} {R : DRs} {e : Ending} {w' : World} (h : PsQ ev n w R e w') (i : Nat) : PsQ ev n w R e (w'.drewN i) := by
 obtain ⟨hb, ⟨D, va, c, Ls, h1, h2, h3, h4⟩ | h2⟩ := h
 ·exact ⟨hb.trans (Du.drewN_below _ _ _), Or.inl ⟨D, va, c, Ls, h1, h2, h3.below (Du.drewN_below _ _ _), h4⟩⟩
 ·exact ⟨hb.trans (Du.drewN_below _ _ _), Or.inr h2⟩
theorem chk_le (l : List UInt8) : (check l).2 ≤ l.length := by
 refine TextMath.check_ind (M := fun l => (check l).2 ≤ l.length) ?_ ?_ ?_ l.length l (Nat.le_refl _)
 ·exact Nat.zero_le _
 ·intro l h0 h1
  rw [TextMath.check_bad l h0 h1]
  exact Nat.zero_le _
 ·intro l h1 ih
  rw [TextMath.check_good l h1]
  have := TextMath.seqLen_le l
  rw [List.length_drop] at ih
  dsimp only
  omega
set_option maxHeartbeats 4000000 in
theorem parse_any (hx : List UInt8 → Option VR) (ev : Nat → TypeId × Value) (t : List UInt8) (w : World) (R : DRs) (hs : t.length ≤ 140737488355328) (hE : EvA ev w) (hH : ∀ b, HxOk hx ev (S t) b) (hR : prs hx t = some R) :
  Calls Tryz.prog 10 #[.string (S t)] w fun e w' => PsQ ev t.length w R e w' := by
 have hst : (S t).size = t.length := S_size t
 have hsl : Hid ((S t).data.toList = t) := S_l t
 obtain ⟨s, hse⟩ : ∃ s, S t = s := ⟨_, rfl⟩
 rw [hse] at hst hsl hH ⊢
 have h' : Hid (EvA ev w ∧ (∀ b, HxOk hx ev s b) ∧ s.size = t.length ∧ prs hx t = some R) := ⟨hE, hH, hst, hR⟩
 have hi0 : (0 : Int) ≤ (s.size : Int) := Int.natCast_nonneg _
 have hC : Hid (Calls Tryz.prog 29 #[.string s] w fun e w' => e = .returned (Go.Proofs.YtkknenmpdimdbaaGreatDoor.chkV t) ∧ w' = w) := by
  have h1 := check_any s w (by unfold maxLen; omega)
  rw [hsl.out] at h1
  exact h1
 have hib : (s.size : Int) ≤ 140737488355328 := by omega
 unfold prs at hR
 clear hE hH hse
 by_cases hlong : 4096 < t.length
 ·rw [if_pos hlong] at hR
  injection hR with hR
  have g1 : (4096 : Int) < (s.size : Int) := by omega
  obtain ⟨et, het⟩ : ∃ et, ev 50 = et := ⟨_, rfl⟩
  have hgc : w.cell? ⟨0, 0, none⟩ = some (.iface et.1 et.2) := by
   have h1 := h'.out.1 (50, 0) (by decide)
   rw [het] at h1
   exact h1
  have hql : (((t.length - (t.length - 4096) : Nat) : Int)) = 4096 := by omega
  have hfin : Hid (∀ i, PsQ ev t.length w R (.returned (.tuple #[.slice none 0 0, .iface 69 (.agg #[.iface et.1 et.2, .int .i64 4096])])) (w.drewN i)) := fun i => PsQ.drew ⟨Below.refl _ _, Or.inr ⟨50, _, hR.symm, by rw [hql, ← het]; rfl⟩⟩ i
  clear hC hst hR hlong hql het hib
  go_enter Tryz.func10, Tryz.ntmps10
  go_wp2_with fail
  go_quiet (fail)
  go_wp2_with fail
  go_ret2
  exact hfin.out _
 ·rw [if_neg hlong] at hR
  have g1 : ¬ (4096 : Int) < (s.size : Int) := by omega
  by_cases hu : utf t = true
  ·rw [if_neg (by simp [hu])] at hR
   have hcv : Go.Proofs.YtkknenmpdimdbaaGreatDoor.chkV t = .tuple #[.int .i64 0, .int .i64 ((check t).2 : Int)] := by
    unfold Go.Proofs.YtkknenmpdimdbaaGreatDoor.chkV
    unfold utf at hu
    rw [if_pos hu]
   rw [hcv] at hC
   generalize ((check t).2 : Int) = place at *
   by_cases hnil : t = []
   ·rw [if_pos hnil] at hR
    injection hR with hR
    have hz : s = ⟨#[]⟩ := by
     apply ByteArray.ext
     apply Array.eq_empty_of_size_eq_zero
     have : s.size = 0 := by rw [hst, hnil]; rfl
     exact this
    have hfin : Hid (PsQ ev t.length w R (.returned (.tuple #[.slice none 0 0, .nilIface])) w) := ⟨Below.refl _ _, Or.inl ⟨[], none, 0, [], hR.symm, rfl, ⟨Du.GRow.nil _ _ _ _, fun r hr => (by cases hr)⟩, rfl⟩⟩
    subst hz
    clear hst hR hlong hcv hib hu hnil hsl h'
    go_enter Tryz.func10, Tryz.ntmps10
    go_wp2_with (go_at_call 29; refine hC.out.mono ?_; rintro e w' ⟨rfl, hww⟩; obtain rfl := hww.symm; clear hww)
    go_ret2
    exact hfin.out
   ·rw [if_neg hnil] at hR
    have hne : (s.toList == []) = false := by
     rw [Lib.toList_data, hsl.out]
     cases t with
     | nil => exact absurd rfl hnil
     | cons a l => rfl
    obtain ⟨W0, hW0⟩ : ∃ W0, w.alloc (.cells #[.string s, .int .i64 0] 72) = W0 := ⟨_, rfl⟩
    have hb0 : Below w.heap.size w W0 := by rw [← hW0]; exact (Below.refl _ _).alloc (Nat.le_refl _) _
    have hr0 : Rd W0 w.heap.size s 0 := by rw [← hW0]; exact heap_alloc_last w _
    have hNm : Hid (Calls Tryz.prog 30 #[.pointer (some ⟨w.heap.size, 0, none⟩)] W0 fun e w' => NQ ev s w.heap.size W0 R e w') :=
     name_any hx ev s 0 w.heap.size W0 R hr0 (Nat.zero_le _) (by omega) (h'.out.1.below hb0) (h'.out.2.1 _) (by unfold lf; rw [List.drop_zero, hsl.out]; exact hR)
    have hb0' : Hid (Below w.heap.size w W0) := hb0
    have hW0' : Hid (w.alloc (.cells #[.string s, .int .i64 0] 72) = W0) := hW0
    clear hst hR hlong hcv hib hu hnil hb0 hr0 hW0
    go_enter Tryz.func10, Tryz.ntmps10
    go_upto_region 9 with (go_at_call 29; refine hC.out.mono ?_; rintro e w' ⟨rfl, hww⟩; obtain rfl := hww.symm; clear hww)
    rw [hW0'.out]
    go_wp2_with fail
    refine hNm.out.mono ?_
    rintro e w2 hq
    rcases hq with ⟨D, va, c, Ls, hRe, rfl, hd, hsd, hw⟩ | ⟨k, m, hRe, rfl, hw⟩
    ·have hfin : Hid (PsQ ev t.length w R (.returned (.tuple #[.slice va D.length c, .nilIface])) w2) := ⟨hb0'.out.trans hw.1, Or.inl ⟨D, va, c, Ls, hRe, rfl, hd, hsd⟩⟩
     generalize D.length = dn at *
     clear hRe hd hsd hw hNm hC hW0'
     go_wp2_with fail
     go_ret2
     exact hfin.out
    ·have hfin : Hid (PsQ ev t.length w R (.returned (.tuple #[.slice none 0 0, refV ev k ((s.size - m : Nat) : Int)])) w2) := ⟨hb0'.out.trans hw.1, Or.inr ⟨k, m, hRe, by rw [h'.out.2.2.1]⟩⟩
     obtain ⟨tt, u, hrv⟩ : ∃ t u, refV ev k ((s.size - m : Nat) : Int) = .iface t u := ⟨_, _, rfl⟩
     rw [hrv] at hfin ⊢
     clear hRe hw hrv hNm hC hW0'
     go_wp2_with fail
     go_ret2
     exact hfin.out
  ·have hu' : utf t = false := by simpa using hu
   rw [if_pos hu'] at hR
   injection hR with hR
   have hcv : Go.Proofs.YtkknenmpdimdbaaGreatDoor.chkV t = .tuple #[.int .i64 10, .int .i64 ((check t).2 : Int)] := by
    unfold Go.Proofs.YtkknenmpdimdbaaGreatDoor.chkV
    unfold utf at hu
    rw [if_neg hu]
   rw [hcv] at hC
   obtain ⟨et, het⟩ : ∃ et, ev 51 = et := ⟨_, rfl⟩
   have hgc : w.cell? ⟨1, 0, none⟩ = some (.iface et.1 et.2) := by
    have h1 := h'.out.1 (51, 1) (by decide)
    rw [het] at h1
    exact h1
   have hql : (((t.length - (t.length - (check t).2) : Nat) : Int)) = ((check t).2 : Int) := by have := chk_le t; omega
   have hfin : Hid (∀ i, PsQ ev t.length w R (.returned (.tuple #[.slice none 0 0, .iface 69 (.agg #[.iface et.1 et.2, .int .i64 ((check t).2 : Int)])])) (w.drewN i)) := fun i => PsQ.drew ⟨Below.refl _ _, Or.inr ⟨51, _, hR.symm, by rw [hql, ← het]; rfl⟩⟩ i
   generalize ((check t).2 : Int) = place at *
   clear hst hR hlong hql het hib hcv hu hu'
   go_enter Tryz.func10, Tryz.ntmps10
   go_wp2_with (go_at_call 29; refine hC.out.mono ?_; rintro e w' ⟨rfl, hww⟩; obtain rfl := hww.symm; clear hww)
   go_quiet (fail)
   go_wp2_with fail
   go_ret2
   exact hfin.out _
end Pa
end Go.Proofs.YtkknenmpdimdbaaGreatDoor
