import Derived.Test.YtgdinncdhjeokaaGreatDoorRdI
import Derived.BigQuiet
namespace Go.Proofs.YtgdinncdhjeokaaGreatDoor
namespace Rd
open Go.RowKit
open LdMath
open Lr (PR RC pf chg okD dnB ChgTab GOwn GRow pV pV_len Kd PX RX rV rV_len append_gen RRow PRow said rrow_at prow_at drewN_below)
set_option linter.unusedVariables false
set_option maxRecDepth 100000

/-- A line's number, where one line is put in ahead of the line f. -/
def lat (n f : Int) : Int := if 0 < f ∧ f ≤ n then n + 1 else n
theorem later_any (n f : Int) (w : World) (h0 : 0 ≤ n) (h1 : n < 1099511627776) :
    Calls Tryz.prog 25 #[.int .i64 n, .int .i64 f] w fun e w' => e = .returned (.int .i64 (lat n f)) ∧ w = w' := by
  by_cases hf : 0 < f
  · by_cases hn : f ≤ n
    · have e : lat n f = n + 1 := by unfold lat; rw [if_pos ⟨hf, hn⟩]
      rw [e]
      have d1 : f > 0 := hf
      have d2 : n ≥ f := hn
      go_enter Tryz.func25, Tryz.ntmps25
      go_wp2_with fail
      go_ret
      exact ⟨rfl, rfl⟩
    · have e : lat n f = n := by unfold lat; rw [if_neg (fun h => hn h.2)]
      rw [e]
      have d1 : f > 0 := hf
      have d2 : ¬ n ≥ f := hn
      go_enter Tryz.func25, Tryz.ntmps25
      go_wp2_with fail
      go_ret
      exact ⟨rfl, rfl⟩
  · have e : lat n f = n := by unfold lat; rw [if_neg (fun h => hf h.1)]
    rw [e]
    have d1 : ¬ f > 0 := hf
    go_enter Tryz.func25, Tryz.ntmps25
    go_wp2_with fail
    go_ret
    exact ⟨rfl, rfl⟩
/-- What sameLoad asks of two texts. -/
def SmL (s t : List UInt8) (f : Int) : Prop := (rdT s).2.1 = (rdT t).2.1 ∧ ((rdT s).2.1 ≠ 0 → ((rdT t).2.2 : Int) = lat ((rdT s).2.2 : Int) f) ∧ (ldR s).length = (ldR t).length ∧ ∀ i (h : i < (ldR s).length) (h' : i < (ldR t).length), (ldR s)[i].2 = (ldR t)[i].2 ∧ ((ldR t)[i].1 : Int) = lat ((ldR s)[i].1 : Int) f

set_option maxHeartbeats 4000000 in
theorem sameLoad_any (s t : ByteArray) (hs : s.size ≤ 4194304) (ht : t.size ≤ 4194304) (f : Int) (w : World) (hWt : WTab w) (hCt : ChgTab w) (hm : SmL s.data.toList t.data.toList f) :
    Calls Tryz.prog 16 #[.string s, .string t, .int .i64 f] w fun e w' => e = .returned (.bool true) ∧ Below w.heap.size w w' := by
  obtain ⟨m1, m2, m3, m4⟩ := hm
  obtain ⟨n, hn⟩ : ∃ n, (ldR s.data.toList).length = n := ⟨_, rfl⟩
  have hn' : (ldR t.data.toList).length = n := by rw [← m3, hn]
  have hL1 : Hid (Calls Tryz.prog 8 #[.string s] w fun e w' => ∃ a c Rs, e = .returned (.tuple #[.slice a n c, .int .i64 ((rdT s.data.toList).2.1 : Int), .int .i64 ((rdT s.data.toList).2.2 : Int)]) ∧ LdRw w' (ldR s.data.toList) a Rs ∧ Below w.heap.size w w') := loads_any s hs w hWt hCt n hn
  have hL2 : ∀ W, Below w.heap.size w W → Hid (Calls Tryz.prog 8 #[.string t] W fun e w' => ∃ a c Rs, e = .returned (.tuple #[.slice a n c, .int .i64 ((rdT s.data.toList).2.1 : Int), .int .i64 ((rdT t.data.toList).2.2 : Int)]) ∧ LdRw w' (ldR t.data.toList) a Rs ∧ Below W.heap.size W w') := fun W hb => by
    have := loads_any t ht W (hWt.below hb) (hCt.below hb) n hn'
    rw [← m1] at this
    exact this
  have z1 := ldR_size s.data.toList
  have z2 := ldR_size t.data.toList
  have z3 := rdT_size s.data.toList
  rw [size_l] at z1 z2 z3
  have nb : (n : Int) ≤ 4194306 := by omega
  have nb' : Hid (n ≤ 4194306) := by unfold Hid; omega
  have hlat : Hid (∀ k : Nat, k ≤ 4194306 → ∀ W, Calls Tryz.prog 25 #[.int .i64 (k : Int), .int .i64 f] W fun e w' => e = .returned (.int .i64 (lat (k : Int) f)) ∧ W = w') := fun k hk W => later_any (k : Int) f W (Int.natCast_nonneg _) (by omega)
  obtain ⟨er, her⟩ : ∃ er, (rdT s.data.toList).2.1 = er := ⟨_, rfl⟩
  obtain ⟨at1, hat1⟩ : ∃ x, (rdT s.data.toList).2.2 = x := ⟨_, rfl⟩
  obtain ⟨at2, hat2⟩ : ∃ x, (rdT t.data.toList).2.2 = x := ⟨_, rfl⟩
  rw [her] at m2 hL1 hL2
  rw [hat1] at hL1 m2 z3
  rw [hat2] at hL2 m2
  have hlt0 : Hid (∀ W, Calls Tryz.prog 25 #[.int .i64 (at1 : Int), .int .i64 f] W fun e w' => e = .returned (.int .i64 (lat (at1 : Int) f)) ∧ W = w') := fun W => hlat.out at1 (by omega) W
  have hMM : Hid (((ldR s.data.toList).length = n ∧ (ldR t.data.toList).length = n) ∧ (∀ r ∈ ldR s.data.toList, r.1 ≤ 4194306 ∧ r.2.2.length ≤ 4194306) ∧ ∀ i (h : i < (ldR s.data.toList).length) (h' : i < (ldR t.data.toList).length), (ldR s.data.toList)[i].2 = (ldR t.data.toList)[i].2 ∧ ((ldR t.data.toList)[i].1 : Int) = lat ((ldR s.data.toList)[i].1 : Int) f) := ⟨⟨hn, hn'⟩, fun r hr => by have := z1.2 r hr; omega, m4⟩
  have hsame : Hid (∀ W a b c d Rs Qs, LdRw W (ldR s.data.toList) a Rs → LdRw W (ldR t.data.toList) b Qs → Calls Tryz.prog 18 #[.slice a n c, .slice b n d, .bool false] W fun e w' => e = .returned (.bool true) ∧ Below W.heap.size W w') := fun W a b c d Rs Qs h1 h2 => by
    refine Lr.sameRecordsF_any a b c d Rs Qs n W (by rw [h1.2.1, hn]) (by rw [h2.2.1, hn']) (by have := nb'.out; omega) h1.1 h2.1 (fun i hi hi' => ?_) (fun r hr => ?_)
    · have hi1 : i < (ldR s.data.toList).length := by rw [← h1.2.1]; exact hi
      have hi2 : i < (ldR t.data.toList).length := by rw [← h2.2.1]; exact hi'
      rw [(h1.2.2 i hi hi1).2, (h2.2.2 i hi' hi2).2]
      exact (m4 i hi1 hi2).1
    · obtain ⟨i, hi, rfl⟩ := List.getElem_of_mem hr
      have hi1 : i < (ldR s.data.toList).length := by rw [← h1.2.1]; exact hi
      have h3 := (h1.2.2 i hi hi1).2
      have h4 := (z1.2 _ (List.getElem_mem hi1)).2
      have h5 : Rs[i].2.2.2.2 = (ldR s.data.toList)[i].2.2 := congrArg Prod.snd h3
      rw [h5]
      omega
  clear m1 m3 m4 hn hn' hWt hCt hs ht z1 z2 her hat1 hat2
  have hcase : (((er : Int) != 0) = false) ∨ (((er : Int) != 0) = true ∧ (at2 : Int) = lat (at1 : Int) f) := by
    by_cases h0 : er = 0
    · exact .inl (by simp [h0])
    · exact .inr ⟨by simp only [bne_iff_ne, ne_eq]; omega, m2 h0⟩
  have hlat' : Hid (∀ k : Nat, k ≤ 4194306 → ∀ W, Calls Tryz.prog 25 #[.int .i64 (k : Int), .int .i64 f] W fun e w' => e = .returned (.int .i64 (lat (k : Int) f)) ∧ w' = W) := fun k hk W => (hlat.out k hk W).mono (fun e w' h => ⟨h.1, h.2.symm⟩)
  clear m2 z3 hlat
  rcases hcase with hc0 | ⟨hc0, hc1⟩
  all_goals
    (try rw [hc1] at hL2)
    (try clear hc1)
    generalize lat (at1 : Int) f = la at *
    go_enter Tryz.func16, Tryz.ntmps16
    go_wp2_with (first
      | (go_at_call 8; refine hL1.out.mono ?_; rintro e w1 ⟨a1, c1, R1, rfl, hR1, hb1⟩; have H1 : Hid (LdRw w1 (ldR s.data.toList) a1 R1 ∧ Below w.heap.size w w1) := ⟨hR1, hb1⟩; clear hR1 hb1 hL1)
      | (go_at_call 8; refine (hL2 w1 H1.out.2).out.mono ?_; rintro e w2 ⟨a2, c2, R2, rfl, hR2, hb2⟩; have H2 : Hid (LdRw w2 (ldR s.data.toList) a1 R1 ∧ LdRw w2 (ldR t.data.toList) a2 R2 ∧ Below w.heap.size w w2) := ⟨H1.out.1.below hb2, hR2, H1.out.2.trans (hb2.mono H1.out.2.size)⟩; clear hR2 hb2 hL2)
      | (go_at_call 10; refine (num_any _ _).mono ?_; rintro e w9 ⟨rfl, rfl⟩)
      | (go_at_call 18; refine (hsame.out _ a1 a2 c1 c2 R1 R2 H2.out.1 H2.out.2.1).mono ?_; rintro e w3 ⟨rfl, hb3⟩; have H3 : Hid (LdRw w3 (ldR s.data.toList) a1 R1 ∧ LdRw w3 (ldR t.data.toList) a2 R2 ∧ Below w.heap.size w w3) := ⟨H2.out.1.below hb3, H2.out.2.1.below hb3, H2.out.2.2.trans (hb3.mono H2.out.2.2.size)⟩; clear hb3)
      | (go_at_call 25; refine (hlt0.out _).mono ?_; rintro e w4 ⟨rfl, rfl⟩))
    obtain ⟨W9, rfl⟩ : ∃ W9, W9 = w9 := ⟨_, rfl⟩
    clear hc0 hsame hlt0 H1 H2
    go_loopw [13] (fun iv wr => ∃ i q : Nat, i ≤ n ∧ iv = .int .i64 (i : Int) ∧ Hid (wr = W9.drewN q)) (fun iv _ => n - (intOf iv).toNat)
    case atStart => exact ⟨0, 0, Nat.zero_le _, rfl, rfl⟩
    case round =>
      obtain ⟨i, q, hi, rfl, hw⟩ := hrel
      have i0 : (0 : Int) ≤ (i : Int) := Int.natCast_nonneg _
      by_cases hlt : i < n
      · have i1 : (i : Int) < (n : Int) := Int.ofNat_lt.2 hlt
        have j1 : i < (ldR s.data.toList).length := by rw [hMM.out.1.1]; exact hlt
        have j2 : i < (ldR t.data.toList).length := by rw [hMM.out.1.2]; exact hlt
        have k1 : i < R1.length := by rw [H3.out.1.2.1]; exact j1
        have k2 : i < R2.length := by rw [H3.out.2.1.2.1]; exact j2
        obtain ⟨b1, o1, rfl, p1, p2, p3⟩ := rrow_at H3.out.1.1 i k1
        obtain ⟨b2, o2, rfl, q1, q2, q3⟩ := rrow_at H3.out.2.1.1 i k2
        clear p2 p3 q2 q3
        rw [(H3.out.1.2.2 i k1 j1).1] at p1
        rw [(H3.out.2.1.2.2 i k2 j2).1, (hMM.out.2.2 i j1 j2).2] at q1
        have hx := (hMM.out.2.1 _ (List.getElem_mem j1)).1
        obtain ⟨x, hxx⟩ : ∃ x, (ldR s.data.toList)[i].1 = x := ⟨_, rfl⟩
        rw [hxx] at p1 q1 hx
        have hlx := hlat'.out x hx
        have hE : ∀ a, wr.cell? a = W9.cell? a := fun a => by rw [hw.out]; rfl
        rw [← hE] at p1 q1
        generalize lat (x : Int) f = lx at *
        have hlx' : Hid (∀ W, Calls Tryz.prog 25 #[.int .i64 (x : Int), .int .i64 f] W fun e w' => e = .returned (.int .i64 lx) ∧ w' = W) := hlx
        have hlt' : Hid (i < n) := hlt
        clear hE hlt hi hlx hx hxx j1 j2 k1 k2
        go_wp2_with fail
        go_quiet ((go_at_call 25; exact Calls.quiet_of_same (hlx'.out _)))
        go_wp2_with fail
        go_roundw
        case rel => exact ⟨i + 1, _, hlt'.out, by simp, by unfold Hid; rw [hw.out, World.drewN_drewN]⟩
        case measure => have := hlt'.out; simp [intOf]; omega
      · have e : n = i := by omega
        subst e
        have k1 : ¬ (n : Int) < (n : Int) := by omega
        have hfin : Hid (Below w.heap.size w wr) := by unfold Hid; rw [hw.out]; exact H3.out.2.2.trans (drewN_below _ _ _)
        clear hlt hi
        go_wp2_with fail
        go_ret
        exact ⟨rfl, hfin.out⟩
end Rd
end Go.Proofs.YtgdinncdhjeokaaGreatDoor
