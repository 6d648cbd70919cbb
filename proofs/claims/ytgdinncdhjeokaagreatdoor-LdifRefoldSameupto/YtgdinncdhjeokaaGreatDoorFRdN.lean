import Derived.Test.YtgdinncdhjeokaaGreatDoorFRdKL
namespace Go.Proofs.YtgdinncdhjeokaaGreatDoor
namespace Rd
open Go.RowKit
open LdMath
open Lr (PR RC pf chg okD dnB ChgTab GOwn GRow pV pV_len Kd PX RX rV rV_len append_gen RRow PRow said rrow_at prow_at drewN_below)
set_option linter.unusedVariables false
set_option maxRecDepth 100000

theorem wrap_up (i : Nat) (h : i ≤ 4194304) : wrap64 ((i : Int) + 1) = (i : Int) + 1 := by unfold wrap64; omega
theorem meas_up {i n : Nat} (h : i < n) : n - ((i : Int) + 1).toNat < n - (i : Int).toNat := by omega
theorem lat_zero (n : Int) : lat n 0 = n := by unfold lat; rw [if_neg (fun h => by omega)]
theorem smL_same {s t : List UInt8} (h : phys t = phys s) : SmL s t 0 := by
  have h1 : rdT t = rdT s := rdT_phys h
  have h2 : ldR t = ldR s := ldR_phys h
  unfold SmL
  rw [h1, h2]
  exact ⟨rfl, fun _ => (lat_zero _).symm, rfl, fun i _ _ => ⟨rfl, (lat_zero _).symm⟩⟩
/-- Lines, as rows. -/
theorem linesR_any (s : ByteArray) (hs : s.size ≤ 4194304) (PL : List (Nat × List UInt8)) (hPL : phys s.data.toList = PL) (n : Nat) (hn : (outL PL).length = n) (W : World) :
    Calls Tryz.prog 13 #[.string s] W fun e w' => ∃ a c, e = .returned (.tuple #[.slice a n c, .int .i64 ((outE PL).1 : Int), .int .i64 ((outE PL).2 : Int)]) ∧ LinR w' a (outL PL) ∧ Below W.heap.size W w' := by
  refine (lines_any s hs W).mono ?_
  rintro e w' ⟨v, er, ln, rfl, h1, h2⟩
  unfold UnfIs at h1
  rw [hPL] at h1
  obtain ⟨⟨a, c, rfl, h3⟩, rfl, rfl⟩ := unf_out h1
  rw [hn]
  exact ⟨a, c, rfl, h3, h2⟩

set_option maxRecDepth 100000 in
set_option maxHeartbeats 8000000 in
theorem ldifEnds_walk (s : ByteArray) (hs : s.size ≤ 1048576) (w : World) (hWt : WTab w) (hCt : ChgTab w) :
    Calls Tryz.prog 5 #[.string s] w fun e w' => e = .returned (.bool true) ∧ Below w.heap.size w w' := by
  have hF : Hid (Calls Tryz.prog 12 #[] w fun e w' => e = .returned (.bool true) ∧ Below w.heap.size w w') := fixed_any w hWt hCt
  have hTb : Hid (WTab w ∧ ChgTab w) := ⟨hWt, hCt⟩
  clear hWt hCt
  go_enter Tryz.func5, Tryz.ntmps5
  go_wp2_with (go_at_call 12; refine hF.out.mono ?_; rintro e w1 ⟨rfl, hb1⟩)
  obtain ⟨W1, rfl⟩ : ∃ W1, W1 = w1 := ⟨_, rfl⟩
  have hb1' : Hid (Below w.heap.size w W1) := hb1
  clear hb1 hF
  go_loopw [4, 5] (fun bv iv wr => ∃ (i : Nat) (a : Option Addr) (n c : Nat), i ≤ s.size ∧ iv = .int .i64 (i : Int) ∧ bv = .slice a n c ∧ Hid (Own wr W1.heap.size (.slice a n c) (crlf (s.data.toList.take i)) ∧ 13 ∉ s.data.toList.take i ∧ Below W1.heap.size W1 wr)) (fun _ iv _ => s.size - (intOf iv).toNat)
  case atStart => exact ⟨0, none, 0, 0, Nat.zero_le _, rfl, rfl, own_nil _ _, by simp, Below.refl _ _⟩
  case round =>
    obtain ⟨i, a, n, c, hi, rfl, rfl, hQ⟩ := hrel
    have i0 : (0 : Int) ≤ (i : Int) := Int.natCast_nonneg _
    have i1 : (i : Int) < 1099511627777 := by omega
    by_cases hlt : i < s.size
    · obtain ⟨cc, hcc⟩ : ∃ cc, s[i] = cc := ⟨_, rfl⟩
      obtain ⟨z, hz⟩ : ∃ z : Int, (s[i].toNat : Int) = z := ⟨_, rfl⟩
      have hzc : (cc.toNat : Int) = z := by rw [← hcc]; exact hz
      have hlt' : Hid (i < s.size) := hlt
      have htk : s.data.toList.take (i + 1) = s.data.toList.take i ++ [cc] := by rw [← hcc]; exact take_snoc s i hlt
      by_cases h13 : cc = 13
      · have hb : (z == 13) = true := by rw [← hzc, h13]; rfl
        have hfin : Hid (Below w.heap.size w wr) := hb1'.out.trans (hQ.out.2.2.mono hb1'.out.size)
        clear h13 htk hcc hQ hi hs hzc
        go_wp2_with fail
        go_ret
        exact ⟨rfl, hfin.out⟩
      · have hb : (z == 13) = false := by
          rw [← hzc, beq_eq_false_iff_ne]
          intro e
          exact h13 (UInt8.toNat_inj.1 (by show _ = 13; omega))
        have hno : 13 ∉ s.data.toList.take (i + 1) := by
          rw [htk]
          intro h
          rcases List.mem_append.1 h with h | h
          · exact hQ.out.2.1 h
          · have h' : 13 = cc := by simpa using h
            exact h13 h'.symm
        have hsz : W1.heap.size ≤ wr.heap.size := hQ.out.2.2.size
        have hcl := crlf_len (s.data.toList.take i)
        rw [List.length_take] at hcl
        by_cases h10 : cc = 10
        · have hb' : (z == 10) = true := by rw [← hzc, h10]; rfl
          obtain ⟨g1, k1, w2, e1, o1, b1⟩ := app_byte wr W1.heap.size (.slice a n c) _ 13 hQ.out.1 hsz (by omega)
          obtain ⟨g2, k2, w3, e2, o2, b2⟩ := app_byte w2 W1.heap.size _ _ cc o1 (Nat.le_trans hsz b1.size) (by simp; omega)
          have e1' : (Builtin.append_ #[43, 43] 43 #[.slice a n c, .slice (some ⟨wr.heap.size, 0, none⟩) 1 1]).run Tryz.prog (wr.alloc (.cells #[.int .u8 13] 5)) = _ := e1
          obtain ⟨n1, hn1⟩ : ∃ n1, (crlf (s.data.toList.take i)).length + 1 = n1 := ⟨_, rfl⟩
          obtain ⟨n2, hn2⟩ : ∃ n2, (crlf (s.data.toList.take i) ++ [13]).length + 1 = n2 := ⟨_, rfl⟩
          rw [hn1] at e1' e2
          rw [hn2] at e2 o2
          have hfin : Hid (Own w3 W1.heap.size (.slice (some ⟨g2, 0, none⟩) n2 k2) (crlf (s.data.toList.take (i + 1))) ∧ 13 ∉ s.data.toList.take (i + 1) ∧ Below W1.heap.size W1 w3) := by
            refine ⟨?_, hno, (hQ.out.2.2.trans b1).trans b2⟩
            rw [htk, crlf_app, h10]
            rw [h10, List.append_assoc] at o2
            exact o2
          rw [hzc] at e2
          clear e1 o1 b1 o2 b2 hn1 hn2 htk hno hsz hcl hQ h13 h10 hi hs hcc hzc
          go_wp2_with (first
            | (at_builtin; refine Lib.wpList_append_run _ rfl _ _ _ _ rfl _ _ rfl rfl _ _ e1' ?_; clear e1')
            | (at_builtin; refine Lib.wpList_append_run _ rfl _ _ _ _ rfl _ _ rfl rfl _ _ e2 ?_; clear e2))
          go_roundw
          case rel => exact ⟨i + 1, _, _, _, hlt'.out, by simp, rfl, hfin⟩
          case measure => have := hlt'.out; simp [intOf]; omega
        · have hb' : (z == 10) = false := by
            rw [← hzc, beq_eq_false_iff_ne]
            intro e
            exact h10 (UInt8.toNat_inj.1 (by show _ = 10; omega))
          obtain ⟨g2, k2, w3, e2, o2, b2⟩ := app_byte wr W1.heap.size (.slice a n c) _ cc hQ.out.1 hsz (by omega)
          obtain ⟨n2, hn2⟩ : ∃ n2, (crlf (s.data.toList.take i)).length + 1 = n2 := ⟨_, rfl⟩
          rw [hn2] at e2 o2
          have hfin : Hid (Own w3 W1.heap.size (.slice (some ⟨g2, 0, none⟩) n2 k2) (crlf (s.data.toList.take (i + 1))) ∧ 13 ∉ s.data.toList.take (i + 1) ∧ Below W1.heap.size W1 w3) := by
            refine ⟨?_, hno, hQ.out.2.2.trans b2⟩
            rw [htk, crlf_app]
            have hc1 : crlf [cc] = [cc] := by rw [crlf, if_neg h10]; rfl
            rw [hc1]
            exact o2
          rw [hzc] at e2
          clear o2 b2 hn2 htk hno hsz hcl hQ h13 h10 hi hs hcc hzc
          go_wp2_with (at_builtin; refine Lib.wpList_append_run _ rfl _ _ _ _ rfl _ _ rfl rfl _ _ e2 ?_; clear e2)
          go_roundw
          case rel => exact ⟨i + 1, _, _, _, hlt'.out, by simp, rfl, hfin⟩
          case measure => have := hlt'.out; simp [intOf]; omega
    · have hie : i = s.size := by omega
      subst hie
      obtain ⟨q1, q2, q3⟩ := hQ.out
      rw [List.take_of_length_le (by rw [size_l]; exact Nat.le_refl _)] at q1 q2
      have hcv := own_conv q1
      have hph := phys_crlf s.data.toList q2
      have hts : (S (crlf s.data.toList)).size ≤ 4194304 := by rw [S_size]; have := crlf_len s.data.toList; rw [size_l] at this; omega
      obtain ⟨t, ht⟩ : ∃ t, S (crlf s.data.toList) = t := ⟨_, rfl⟩
      have htl : t.data.toList = crlf s.data.toList := by rw [← ht, S_l]
      rw [ht] at hcv hts
      obtain ⟨PL, hPL⟩ : ∃ PL, phys s.data.toList = PL := ⟨_, rfl⟩
      have hPt : phys t.data.toList = PL := by rw [htl, hph, hPL]
      obtain ⟨m, hm⟩ : ∃ m, (outL PL).length = m := ⟨_, rfl⟩
      have hmb : m ≤ 4194305 := by rw [← hm, ← hPL]; exact outL_len s (by omega)
      have hU : ∀ W, Hid (Calls Tryz.prog 13 #[.string s] W fun e w' => ∃ a c, e = .returned (.tuple #[.slice a m c, .int .i64 ((outE PL).1 : Int), .int .i64 ((outE PL).2 : Int)]) ∧ LinR w' a (outL PL) ∧ Below W.heap.size W w') := fun W => linesR_any s (by omega) PL hPL m hm W
      have hV : ∀ W, Hid (Calls Tryz.prog 13 #[.string t] W fun e w' => ∃ a c, e = .returned (.tuple #[.slice a m c, .int .i64 ((outE PL).1 : Int), .int .i64 ((outE PL).2 : Int)]) ∧ LinR w' a (outL PL) ∧ Below W.heap.size W w') := fun W => linesR_any t hts PL hPt m hm W
      have hb2 : Below w.heap.size w wr := hb1'.out.trans (q3.mono hb1'.out.size)
      have hSL : Hid (∀ W, Below w.heap.size w W → Calls Tryz.prog 16 #[.string s, .string t, .int .i64 0] W fun e w' => e = .returned (.bool true) ∧ Below W.heap.size W w') := fun W hb => sameLoad_any s t (by omega) hts 0 W (hTb.out.1.below hb) (hTb.out.2.below hb) (smL_same (by rw [hPt, hPL]))
      have hb2' : Hid (Below w.heap.size w wr) := hb2
      have hmm : Hid ((outL PL).length = m ∧ m ≤ 4194305) := ⟨hm, hmb⟩
      obtain ⟨L, hL⟩ : ∃ L, outL PL = L := ⟨_, rfl⟩
      rw [hL] at hU hV hmm
      generalize ((outE PL).1 : Int) = x at *
      generalize ((outE PL).2 : Int) = y at *
      have mb : (m : Int) ≤ 4194305 := by omega
      clear q1 q2 q3 hph hts ht htl hPL hPt hm hmb hQ hlt hi hs hb2 hL
      go_wp2_with (first
        | (go_at_call 13; refine (hU wr).out.mono ?_; rintro e w2 ⟨a1, c1, rfl, hR1, hc2⟩; have H1 : Hid (LinR w2 a1 L ∧ Below w.heap.size w w2) := ⟨hR1, hb2'.out.trans (hc2.mono hb2'.out.size)⟩; clear hR1 hc2 hU)
        | (go_at_call 13; refine (hV w2).out.mono ?_; rintro e w3 ⟨a2, c2, rfl, hR2, hc3⟩; have H2 : Hid (LinR w3 a1 L ∧ LinR w3 a2 L ∧ Below w.heap.size w w3) := ⟨H1.out.1.below hc3, hR2, H1.out.2.trans (hc3.mono H1.out.2.size)⟩; clear hR2 hc3 hV)
        | (go_at_call 10; refine (num_any _ _).mono ?_; rintro e w9 ⟨rfl, rfl⟩))
      obtain ⟨W9, rfl⟩ : ∃ W9, W9 = w9 := ⟨_, rfl⟩
      clear H1
      go_loopw [13] (fun iv wr => ∃ i q : Nat, i ≤ m ∧ iv = .int .i64 (i : Int) ∧ Hid (wr = W9.drewN q)) (fun iv _ => m - (intOf iv).toNat)
      case atStart => exact ⟨0, 0, Nat.zero_le _, rfl, rfl⟩
      case round =>
        obtain ⟨j, q, hj, rfl, hw⟩ := hrel
        have j0 : (0 : Int) ≤ (j : Int) := Int.natCast_nonneg _
        by_cases hlt : j < m
        · have j1 : (j : Int) < (m : Int) := Int.ofNat_lt.2 hlt
          have hkL : j < L.length := by rw [hmm.out.1]; exact hlt
          obtain ⟨g, rfl, p0, p1⟩ := H2.out.1 j hkL
          obtain ⟨g', rfl, q0, q1⟩ := H2.out.2.1 j hkL
          have hE : ∀ a, wr.cell? a = W9.cell? a := fun a => by rw [hw.out]; rfl
          rw [← hE] at p0 p1 q0 q1
          have hnq := fun W => ne_line (L[j].1 : Int) (S L[j].2) W
          generalize (L[j].1 : Int) = z1 at *
          generalize S L[j].2 = z2 at *
          have hlt' : Hid (j < m) := hlt
          clear hE hkL hj hlt
          go_wp2_with fail
          go_quiet (fail)
          go_wp2_with fail
          go_roundw
          case rel => exact ⟨j + 1, _, hlt'.out, by simp, by unfold Hid; rw [hw.out, World.drewN_drewN]⟩
          case measure => have := hlt'.out; simp [intOf]; omega
        · have e : m = j := by omega
          subst e
          have k1 : ¬ (m : Int) < (m : Int) := by omega
          have hwb : Hid (Below w.heap.size w wr) := by unfold Hid; rw [hw.out]; exact H2.out.2.2.trans (drewN_below _ _ _)
          clear hlt hj
          go_wp2_with (go_at_call 16; refine (hSL.out wr hwb.out).mono ?_; rintro e w5 ⟨rfl, hb5⟩)
          go_ret
          exact ⟨rfl, hwb.out.trans (hb5.mono hwb.out.size)⟩
end Rd
end Go.Proofs.YtgdinncdhjeokaaGreatDoor

namespace Go.Proofs.YtgdinncdhjeokaaGreatDoor
open Go.RowKit
theorem ldifEnds_w (s : ByteArray) (w : World) (hs : s.size ≤ 1048576) (hWt : WTab w) (hCt : Lr.ChgTab w) :
    Calls Tryz.prog 5 #[.string s] w fun e w' => e = .returned (.bool true) ∧ Below w.heap.size w w' := Rd.ldifEnds_walk s hs w hWt hCt
end Go.Proofs.YtgdinncdhjeokaaGreatDoor
