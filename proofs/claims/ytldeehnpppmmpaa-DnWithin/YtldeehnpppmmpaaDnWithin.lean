import Derived.Test.YtldeehnpppmmpaaDnLaw
namespace Go.Proofs.Ytldeehnpppmmpaa
open Go.RowKit
open DnMath (Tot lx tb tt ck tb_tot tt_tot ck_tot less_tt lx_front lx_between)
set_option linter.unusedVariables false

set_option maxHeartbeats 1000000 in
theorem dnWithin_walk (l k : List (List UInt8)) (a b : Option Addr) (c d : Nat) (w : World) (hl : (l.length + 1) * 16 ≤ 140737488355328) (hk : (k.length + 1) * 16 ≤ 140737488355328) (hc : l.length ≤ c) (hd : k.length ≤ d) (h1 : Row w a l) (h2 : Row w b k) :
    Calls Try.prog 5 #[.slice a l.length c, .slice b k.length d] w fun e w' => e = .returned (.bool true) ∧ Below w.heap.size w w' := by
  have hl' : Hid ((l.length + 1) * 16 ≤ 140737488355328 ∧ (k.length + 1) * 16 ≤ 140737488355328 ∧ k.length ≤ d) := ⟨hl, hk, hd⟩
  have hR : Hid (Row w a l ∧ Row w b k) := ⟨h1, h2⟩
  obtain ⟨kd, hkd0⟩ : ∃ kd, k.dropLast = kd := ⟨_, rfl⟩
  have hkd : Hid (kd.length ≤ 9223372036854775807) := by
    unfold Hid
    rw [← hkd0, List.length_dropLast]
    omega
  have hkd1 : Hid (k.dropLast = kd) := hkd0
  clear hkd0 hl hk hc hd h1 h2
  go_enter Try.func5, Try.ntmps5
  go_wp2_with fail
  refine (copyTexts_any l a c w hl'.out.1 hR.out.1).mono ?_
  rintro e w1 ⟨g1, cap1, rfl, ho1, hc1, hb1⟩
  have o1 : Hid (Row w1 (some ⟨g1, 0, none⟩) (l ++ [spr]) ∧ l.length + 1 ≤ cap1 ∧ Below w.heap.size w w1) := ⟨(ownS_row ho1).1, hc1, hb1⟩
  clear ho1 hc1 hb1
  go_wp2_with fail
  refine (copyTexts_any k b d w1 hl'.out.2.1 (hR.out.2.below o1.out.2.2)).mono ?_
  rintro e w2 ⟨g2, cap2, rfl, ho2, hc2, hb2⟩
  have HB : Below w.heap.size w w2 := o1.out.2.2.trans (hb2.mono o1.out.2.2.size)
  have o2 : Hid (Row w2 (some ⟨g1, 0, none⟩) (l ++ [spr]) ∧ l.length + 1 ≤ cap1 ∧ Row w2 (some ⟨g2, 0, none⟩) (k ++ [spr]) ∧ k.length + 1 ≤ cap2 ∧ Row w2 a l ∧ Row w2 b k ∧ Below w.heap.size w w2) := ⟨o1.out.1.below hb2, o1.out.2.1, (ownS_row ho2).1, hc2, hR.out.1.below HB, hR.out.2.below HB, HB⟩
  clear ho2 hc2 hb2 HB o1 hR
  go_wp2_with fail
  obtain ⟨r1, cc1, r2, cc2, ra, rb, HB⟩ := o2.out
  have hs := hl'.out
  refine (dnWithin_any l k _ _ cap1 cap2 w2 (by omega) (by omega) (by omega) r1.front r2.front).mono ?_
  rintro e w3 ⟨rfl, q3, rfl⟩
  clear r1 cc1 r2 cc2 ra rb HB hs
  go_wp2_with fail
  obtain ⟨r1, cc1, r2, cc2, ra, rb, HB⟩ := o2.out
  have hs := hl'.out
  refine (refWithin_any l k a b c d _ (by omega) (by omega) (ra.drewN _) (rb.drewN _)).mono ?_
  rintro e w4 ⟨rfl, q4, rfl⟩
  clear r1 cc1 r2 cc2 ra rb HB hs
  generalize decide (l <+: k) = t at *
  go_wp2_with fail
  obtain ⟨r1, cc1, r2, cc2, ra, rb, HB⟩ := o2.out
  have hs := hl'.out
  have hp := dnParent_any k (some ⟨g2, 0, none⟩) cap2 (w2.drewN (q3 + q4)) (by omega) (by omega) (r2.front.drewN _)
  rw [hkd1.out] at hp
  refine hp.mono ?_
  rintro e w5 ⟨pa, pc, rfl, rp, hb5⟩
  have HB5 : Below w2.heap.size w2 w5 := (below_drewN (Below.refl _ _) _).trans hb5
  have o5 : Hid (Below w2.heap.size w2 w5 ∧ Row w5 pa kd) := ⟨HB5, rp⟩
  clear r1 cc1 r2 cc2 ra rb HB hs rp hb5 HB5 hp
  go_wp2_with fail
  obtain ⟨r1, cc1, r2, cc2, ra, rb, HB⟩ := o2.out
  have hs := hl'.out
  have hp := refParent_any k b d w5 (by omega) (by omega) (rb.below o5.out.1)
  rw [hkd1.out] at hp
  refine hp.mono ?_
  rintro e w6 ⟨qa, qc, rfl, rq, hb6⟩
  have HB6 : Below w2.heap.size w2 w6 := o5.out.1.trans (hb6.mono o5.out.1.size)
  have o6 : Hid (Below w2.heap.size w2 w6 ∧ Row w6 pa kd ∧ Row w6 qa kd) := ⟨HB6, o5.out.2.below hb6, rq⟩
  clear r1 cc1 r2 cc2 ra rb HB hs rq hb6 HB6 o5 hp
  generalize decide (0 < k.length) = t2 at *
  rcases t with _ | _ <;> rcases t2 with _ | _
  all_goals
    go_wp2_with fail
    have hs := hl'.out
    have hst := sameTexts_any kd kd pa qa pc qc w6 hkd.out hkd.out o6.out.2.1 o6.out.2.2
    rw [decide_eq_true rfl] at hst
    refine hst.mono ?_
    rintro e w7 ⟨rfl, q7, rfl⟩
    clear hst
    clear hs
    go_wp2_with fail
    obtain ⟨r1, cc1, r2, cc2, ra, rb, HB⟩ := o2.out
    have hs := hl'.out
    refine (sparedTexts_any l g1 cap1 a c _ (by omega) cc1 ((r1.below o6.out.1).drewN _) ((ra.below o6.out.1).drewN _)).mono ?_
    rintro e w8 ⟨rfl, q8, rfl⟩
    clear r1 cc1 r2 cc2 ra rb HB hs
    go_wp2_with fail
    obtain ⟨r1, cc1, r2, cc2, ra, rb, HB⟩ := o2.out
    have hs := hl'.out
    refine (sparedTexts_any k g2 cap2 b d _ (by omega) cc2 ((r2.below o6.out.1).drewN _) ((rb.below o6.out.1).drewN _)).mono ?_
    rintro e w9 ⟨rfl, q9, rfl⟩
    clear r1 cc1 r2 cc2 ra rb hs
    go_wp2_with fail
    go_ret
    exact ⟨rfl, below_drewN (HB.trans (o6.out.1.mono HB.size)) _⟩
end Go.Proofs.Ytldeehnpppmmpaa
