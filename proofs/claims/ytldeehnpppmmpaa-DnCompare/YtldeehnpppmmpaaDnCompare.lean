import Derived.Test.YtldeehnpppmmpaaDnLaw
namespace Go.Proofs.Ytldeehnpppmmpaa
open Go.RowKit
open DnMath (Tot lx tb tt ck tb_tot tt_tot ck_tot less_tt lx_front lx_between)
set_option linter.unusedVariables false

set_option maxHeartbeats 1000000 in
theorem dnCompare_walk (l k : List (List UInt8)) (a b : Option Addr) (c d : Nat) (w : World) (hl : (l.length + 1) * 16 ≤ 140737488355328) (hk : (k.length + 1) * 16 ≤ 140737488355328) (hc : l.length ≤ c) (hd : k.length ≤ d) (h1 : Row w a l) (h2 : Row w b k) :
    Calls Try.prog 4 #[.slice a l.length c, .slice b k.length d] w fun e w' => e = .returned (.bool true) ∧ Below w.heap.size w w' := by
  have hl' : Hid ((l.length + 1) * 16 ≤ 140737488355328 ∧ (k.length + 1) * 16 ≤ 140737488355328) := ⟨hl, hk⟩
  have hR : Hid (Row w a l ∧ Row w b k) := ⟨h1, h2⟩
  clear hl hk hc hd h1 h2
  go_enter Try.func4, Try.ntmps4
  go_wp2_with fail
  refine (copyTexts_any l a c w hl'.out.1 hR.out.1).mono ?_
  rintro e w1 ⟨g1, cap1, rfl, ho1, hc1, hb1⟩
  have o1 : Hid (Row w1 (some ⟨g1, 0, none⟩) (l ++ [spr]) ∧ l.length + 1 ≤ cap1 ∧ Below w.heap.size w w1) := ⟨(ownS_row ho1).1, hc1, hb1⟩
  clear ho1 hc1 hb1
  go_wp2_with fail
  refine (copyTexts_any k b d w1 hl'.out.2 (hR.out.2.below o1.out.2.2)).mono ?_
  rintro e w2 ⟨g2, cap2, rfl, ho2, hc2, hb2⟩
  have HB : Below w.heap.size w w2 := o1.out.2.2.trans (hb2.mono o1.out.2.2.size)
  have o2 : Hid (Row w2 (some ⟨g1, 0, none⟩) (l ++ [spr]) ∧ l.length + 1 ≤ cap1 ∧ Row w2 (some ⟨g2, 0, none⟩) (k ++ [spr]) ∧ k.length + 1 ≤ cap2 ∧ Row w2 a l ∧ Row w2 b k ∧ Below w.heap.size w w2) := ⟨o1.out.1.below hb2, o1.out.2.1, (ownS_row ho2).1, hc2, hR.out.1.below HB, hR.out.2.below HB, HB⟩
  clear ho2 hc2 hb2 HB o1 hR
  go_wp2_with fail
  obtain ⟨r1, cc1, r2, cc2, ra, rb, HB⟩ := o2.out
  have hs := hl'.out
  refine (dnCompare_any l k _ _ cap1 cap2 w2 (by omega) (by omega) r1.front r2.front).mono ?_
  rintro e w3 ⟨rfl, rfl⟩
  clear r1 cc1 r2 cc2 ra rb HB hs
  go_wp2_with fail
  obtain ⟨r1, cc1, r2, cc2, ra, rb, HB⟩ := o2.out
  have hs := hl'.out
  refine (refCompare_any l k a b c d w3 (by omega) (by omega) ra rb).mono ?_
  rintro e w4 ⟨rfl, q4, rfl⟩
  clear r1 cc1 r2 cc2 ra rb HB hs
  generalize ck l k = t at *
  go_wp2_with fail
  obtain ⟨r1, cc1, r2, cc2, ra, rb, HB⟩ := o2.out
  have hs := hl'.out
  refine (sparedTexts_any l g1 cap1 a c (w3.drewN q4) (by omega) cc1 (r1.drewN _) (ra.drewN _)).mono ?_
  rintro e w5 ⟨rfl, q5, rfl⟩
  clear r1 cc1 r2 cc2 ra rb HB hs
  go_wp2_with fail
  obtain ⟨r1, cc1, r2, cc2, ra, rb, HB⟩ := o2.out
  have hs := hl'.out
  refine (sparedTexts_any k g2 cap2 b d _ (by omega) cc2 (r2.drewN _) (rb.drewN _)).mono ?_
  rintro e w6 ⟨rfl, q6, rfl⟩
  clear r1 cc1 r2 cc2 ra rb HB hs
  go_wp2_with fail
  go_ret
  exact ⟨rfl, below_drewN o2.out.2.2.2.2.2.2 _⟩
end Go.Proofs.Ytldeehnpppmmpaa
