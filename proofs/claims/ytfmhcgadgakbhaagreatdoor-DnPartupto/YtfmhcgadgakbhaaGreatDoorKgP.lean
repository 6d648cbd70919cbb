import Derived.Test.YtfmhcgadgakbhaaGreatDoorFxS
namespace Go.Proofs.YtfmhcgadgakbhaaGreatDoor
namespace Ke
open Go.RowKit
open Du (PRow DRow PX pV pV_len prow_at PO sprB KDp append_gen GOwn GRow owns_form halfP sameRDN_any)
set_option linter.unusedVariables false
set_option linter.unusedSimpArgs false
set_option maxRecDepth 100000

/-- A part's own copy, with a mark behind it. -/
theorem part_copy {w : World} {pa : Option Addr} {pc : Nat} {ps : List PR} (hpr : PRow w pa ps) (hml : ps.length ≤ 1073741824) :
    ∃ W1 va vc w1 g2 cap2 w2, w.alloc (.cells #[] 25) = W1 ∧
    (Builtin.append_ #[23, 23] 23 #[.slice (some ⟨w.heap.size, 0, none⟩) 0 0, .slice pa ps.length pc]).run Tryz.prog W1 = .ok (.slice va ps.length vc) w1 ∧
    (Builtin.append_ #[23, 23] 23 #[.slice va ps.length vc, .slice (some ⟨w1.heap.size, 0, none⟩) 1 1]).run Tryz.prog (w1.alloc (.cells #[.string (S sprB), .string ⟨#[]⟩] 25)) = .ok (.slice (some ⟨g2, 0, none⟩) (ps.length + 1) cap2) w2 ∧
    PO w.heap.size (some ⟨g2, 0, none⟩, cap2, ps) w2 ∧ ps.length + 1 ≤ cap2 ∧ Below w.heap.size w w2 := by
  obtain ⟨W1, hW1⟩ : ∃ W1, w.alloc (.cells #[] 25) = W1 := ⟨_, rfl⟩
  have b01 : Below w.heap.size w W1 := by rw [← hW1]; exact (Below.refl _ _).alloc (Nat.le_refl _) _
  have oE : GOwn 25 2 pV W1 w.heap.size (.slice (some ⟨w.heap.size, 0, none⟩) 0 0) ([] : List PR) := by rw [← hW1]; exact Du.own_empty w
  obtain ⟨v1, w1, e1, o1, g1, b1⟩ := append_gen KDp W1 w.heap.size (.slice (some ⟨w.heap.size, 0, none⟩) 0 0) [] ps pa ps.length pc oE (hpr.below pV_len b01) rfl b01.size (by simp; omega)
  rw [List.nil_append] at o1
  obtain ⟨va, vc, rfl, _, _, _⟩ := o1.row pV_len
  have ba : Below w.heap.size w1 (w1.alloc (.cells #[.string (S sprB), .string ⟨#[]⟩] 25)) := (Below.refl _ _).alloc (b01.trans b1).size _
  have o1a : GOwn 25 2 pV (w1.alloc (.cells #[.string (S sprB), .string ⟨#[]⟩] 25)) w.heap.size (.slice va ps.length vc) ps := o1.below ((Below.refl _ _).alloc (Nat.le_refl _) _)
  obtain ⟨v2, w2, e2, o2, g2', b2⟩ := append_gen KDp (w1.alloc (.cells #[.string (S sprB), .string ⟨#[]⟩] 25)) w.heap.size (.slice va ps.length vc) ps [(sprB, [])] (some ⟨w1.heap.size, 0, none⟩) 1 1 o1a (GRow.one pV w1 25 (sprB, [])) rfl (by have := (b01.trans b1).size; simp; omega) (by simp; omega)
  obtain ⟨g2, cap2, hv2, hc2⟩ : ∃ g cap, v2 = .slice (some ⟨g, 0, none⟩) (ps.length + 1) cap ∧ ps.length + 1 ≤ cap := by
    rcases owns_form o2 with ⟨_, h0⟩ | ⟨g, cap, e, h1, h2, h3, h4⟩
    · simp at h0
    · exact ⟨g, cap, by rw [e]; simp, by simpa using h1⟩
  subst hv2
  exact ⟨W1, va, vc, w1, g2, cap2, w2, hW1, e1, e2, ⟨g2, rfl, o2⟩, hc2, b01.trans (b1.trans (ba.trans b2))⟩
set_option maxHeartbeats 1000000 in
theorem part_F (ev : Nat → TypeId × Value) (a : Option Addr) (c n : Nat) (ps : List PR) (w : World) (hG : ErrsF ev w) (hn : ps.length = n) (hr : PRow w a ps) (hz : ∀ p ∈ ps, p.1.length + p.2.length ≤ 1073741824) (hnb : n ≤ 1073741824) :
    Calls Tryz.prog 5 #[.slice a n c] w fun e w' => KtF ev w ps 0 e w' := by
  have hK : Hid (Calls Tryz.prog 14 #[.slice a n c, .int .i64 0] w fun e w' => KtF ev w ps 0 e w') := keyText_F ev a c n ps 0 w hG hn hr hz (by omega)
  clear hG hn hr hz hnb
  go_enter Tryz.func5, Tryz.ntmps5
  go_wp2_with fail
  refine hK.out.mono ?_
  rintro e W1 hq
  obtain ⟨s, x, rfl⟩ : ∃ s x, e = .returned (.tuple #[.string s, x]) := by
    rcases hq.2 with ⟨_, _, h⟩ | ⟨_, h⟩
    · exact ⟨_, _, h⟩
    · exact ⟨_, _, h⟩
  have hq' : Hid (KtF ev w ps 0 (.returned (.tuple #[.string s, x])) W1) := hq
  clear hq hK
  go_wp2_with fail
  go_ret2
  exact hq'.out
theorem ktF_pq {ad : Nat → Addr} {w w' w2 w3 : World} {ps : List PR} {e e2 : Ending} (h : KtF (evA ad) w ps 0 e w') (h2 : RtF w2 ps e2 w3) :
    ∃ s x, ∃ f : Int, e = .returned (.tuple #[.string s, x]) ∧ e2 = .returned (.tuple #[.string s, .int .i64 f, .int .i64 0]) ∧ ∀ W, Sen ad W → ErrT W → Calls Tryz.prog 7 #[x, .int .i64 f, .int .i64 0] W fun e w' => e = .returned (.bool true) ∧ Below W.heap.size W w' := by
  have hc : cer ps 0 = rerr ps := by unfold cer; rw [if_neg (by decide)]
  rcases h.2 with ⟨_, h3, h4⟩ | ⟨h3, h4⟩
  · rcases h2.2 with ⟨q1, q2⟩ | ⟨q1, q2⟩
    · exact ⟨_, _, 0, h4, q2, fun W _ _ => lfault_nil W⟩
    · exact absurd (rer_ok h3) q1
  · rcases h2.2 with ⟨q1, q2⟩ | ⟨q1, q2⟩
    · exact absurd (hc.trans q1) h3
    · refine ⟨_, _, _, h4, q2, fun W hS hT => ?_⟩
      have := lfault_ref ad (cer ps 0) 0 W hS hT (cer_mem h3)
      rw [hc] at this
      rw [hc]
      exact this
set_option maxHeartbeats 4000000 in
theorem dnPart_walk (ad : Nat → Addr) (pa : Option Addr) (pc n : Nat) (ps : List PR) (w : World) (hS : Sen ad w) (hE : ErrT w) (hG : RowTab w) (hn : ps.length = n) (hr : PRow w pa ps) (hz : ∀ p ∈ ps, p.1.length + p.2.length ≤ 4194300) (hnb : n ≤ 1073741824) :
    Calls Tryz.prog 3 #[.slice pa n pc] w fun e w' => e = .returned (.bool true) ∧ Below w.heap.size w w' := by
  subst hn
  obtain ⟨W1, va, vc, w1, g2, cap2, w2, hW1, e1, e2, hPO, hc2, hb2⟩ := part_copy (pc := pc) hr hnb
  have hsl : ∀ X, (Instr.sliceAt 23 (.slice (some ⟨g2, 0, none⟩) (ps.length + 1) cap2) none (some (.int .i64 (ps.length : Int))) none).run Tryz.prog X = .ok (.slice (some ⟨g2, 0, none⟩) ps.length cap2) X := fun X => halfP (some ⟨g2, 0, none⟩) (ps.length + 1) cap2 ps.length _ rfl (by omega) X
  have hP : Hid (Calls Tryz.prog 5 #[.slice (some ⟨g2, 0, none⟩) ps.length cap2] w2 fun e w' => KtF (evA ad) w2 ps 0 e w') := part_F (evA ad) _ _ _ ps w2 (senF (hS.below hb2)).1 rfl hPO.row.1 (fun p hp => by have := hz p hp; omega) hnb
  have hR : Hid (∀ W, Below w.heap.size w W → Calls Tryz.prog 6 #[.slice pa ps.length pc] W fun e w' => RtF W ps e w') := fun W hW => rpart_any pa pc ps.length ps W (rowTab_below hG hW) rfl (hr.below pV_len hW) hz (by omega)
  have hS' : Hid (∀ W, Below w.heap.size w W → Sen ad W ∧ ErrT W) := fun W hW => ⟨hS.below hW, (hW.cell (World.block_lt_of_cell? _ _ hE)).trans hE⟩
  have hM : Hid (∀ W, Below w2.heap.size w2 W → Calls Tryz.prog 8 #[.slice (some ⟨g2, 0, none⟩) ps.length cap2, .slice pa ps.length pc] W fun e w' => e = .returned (.bool true) ∧ ∃ q, w' = W.drewN q) := fun W hW => sameRDN_any ps ps.length rfl _ pa cap2 pc W (by omega) ((hPO.below hW).row.1) (hr.below pV_len (hb2.trans (hW.mono hb2.size)))
  have hsp : Hid (∀ W, Below w2.heap.size w2 W → W.cell? ⟨g2, ps.length * 2, none⟩ = some (.string { data := #[115, 112, 97, 114, 101, 32, 114, 111, 111, 109] })) := fun W hW => by
    obtain ⟨g, e, h⟩ := (hPO.below hW).spare
    injection e with e
    injection e with e
    subst e
    exact h
  have hb2' : Hid (Below w.heap.size w w2) := hb2
  have hspr : S sprB = { data := #[115, 112, 97, 114, 101, 32, 114, 111, 111, 109] } := rfl
  rw [hspr] at e2
  have mb : (ps.length : Int) ≤ 1073741824 := by omega
  have m0 : (0 : Int) ≤ (ps.length : Int) := by omega
  have m1 : (ps.length : Int) < (ps.length : Int) + 1 := by omega
  generalize ps.length = m at *
  clear hPO hc2 hb2 hr hz hnb hS hE hG hspr
  go_enter Tryz.func3, Tryz.ntmps3
  go_wp2_with (first
    | (at_builtin; refine Lib.wpList_append_run _ rfl _ _ _ _ rfl _ _ rfl rfl _ _ e1 ?_; clear e1)
    | (at_builtin; refine Lib.wpList_append_run _ rfl _ _ _ _ rfl _ _ rfl rfl _ _ e2 ?_; clear e2))
  refine hP.out.mono ?_
  rintro e W3 hk
  have hb3 : Hid (Below w2.heap.size w2 W3) := hk.1
  have hk' : Hid (KtF (evA ad) w2 ps 0 e W3) := hk
  obtain ⟨s, x, rfl⟩ : ∃ s x, e = .returned (.tuple #[.string s, x]) := by
    rcases hk.2 with ⟨_, _, h⟩ | ⟨_, h⟩
    · exact ⟨_, _, h⟩
    · exact ⟨_, _, h⟩
  have hb3w : Hid (Below w.heap.size w W3) := hb2'.out.trans (hb3.out.mono hb2'.out.size)
  have hR3 : Hid (Calls Tryz.prog 6 #[.slice pa m pc] W3 fun e w' => RtF W3 ps e w') := hR.out W3 hb3w.out
  clear hP hk hR
  go_wp2_with fail
  refine hR3.out.mono ?_
  rintro e W4 ht
  have hb4 : Hid (Below w2.heap.size w2 W4) := hb3.out.trans (ht.1.mono hb3.out.size)
  obtain ⟨s', x', f, h1, rfl, hF⟩ := ktF_pq hk'.out ht
  obtain ⟨rfl, rfl⟩ : s = s' ∧ x = x' := by
    injection h1 with h1
    injection h1 with h1
    have h2 := congrArg Array.toList h1
    simp at h2
    exact h2
  have hb4w : Hid (Below w.heap.size w W4) := hb2'.out.trans (hb4.out.mono hb2'.out.size)
  have hF4 : Hid (Calls Tryz.prog 7 #[x, .int .i64 f, .int .i64 0] W4 fun e w' => e = .returned (.bool true) ∧ Below W4.heap.size W4 w') := hF W4 (hS'.out W4 hb4w.out).1 (hS'.out W4 hb4w.out).2
  have ss := str_self s
  clear hR3 ht h1 hF hk' hb3w hb3
  go_wp2_with fail
  refine hF4.out.mono ?_
  rintro e W5 ⟨rfl, hb⟩
  have hb5 : Hid (Below w2.heap.size w2 W5) := hb4.out.trans (hb.mono hb4.out.size)
  have hM5 : Hid (Calls Tryz.prog 8 #[.slice (some ⟨g2, 0, none⟩) m cap2, .slice pa m pc] W5 fun e w' => e = .returned (.bool true) ∧ ∃ q, w' = W5.drewN q) := hM.out W5 hb5.out
  clear hF4 hb hb4 hb4w hM
  go_wp2_with fail
  refine hM5.out.mono ?_
  rintro e W6 ⟨rfl, q, hq⟩
  have hb6 : Hid (Below w2.heap.size w2 W6) := by
    rw [hq]
    exact hb5.out.trans ⟨rfl, rfl, rfl, Nat.le_refl _, fun _ _ => rfl⟩
  have c6 := hsp.out W6 hb6.out
  have hfin : Hid (Below w.heap.size w W6) := hb2'.out.trans (hb6.out.mono hb2'.out.size)
  clear hM5 hq hb5 hb6 hsp
  go_wp2_with fail
  go_ret
  exact ⟨rfl, hfin.out⟩
end Ke
end Go.Proofs.YtfmhcgadgakbhaaGreatDoor
