import Derived.Test.YtfpphhbpoaobfaaGreatDoorRnW
namespace Go.Proofs.YtfpphhbpoaobfaaGreatDoor
namespace Rd
open Go.RowKit
open LdMath
open Lr (PR RC pf rf chg okD dnB ren renV ChgTab GOwn GRow pV pV_len Kd PX RX rV rV_len append_gen RRow PRow said rrow_at prow_at drewN_below wt wRc CpQ)
set_option linter.unusedVariables false
set_option maxRecDepth 100000

/-- What was loaded says what the records say. -/
theorem same_ld {L : List RX} {rs : List Rc} {n : Nat} {w : World} {a : Option Addr} {c : Nat} (hn : L.length = n) (hr : RRow w a L) (hz : wt (L.map said) ≤ 1048576) (hrs : rs.map (·.2) = L.map said) (W : World) (hW : Below w.heap.size w W) (b : Option Addr) (d : Nat) (Rs : List RX) (h : LdRw W rs b Rs) :
    Calls Tryz.prog 18 #[.slice b n d, .slice a n c, .bool false] W fun e w' => e = .returned (.bool true) ∧ Below W.heap.size W w' := by
  have hl : rs.length = n := by have := congrArg List.length hrs; rw [List.length_map, List.length_map, hn] at this; exact this
  have hln := Lr.wt_len (L.map said)
  rw [List.length_map] at hln
  have hsd : ∀ i (hi : i < Rs.length) (hi' : i < L.length), said Rs[i] = said L[i] := fun i hi hi' => by
    have hi1 : i < rs.length := by rw [← h.2.1]; exact hi
    rw [(h.2.2 i hi hi1).2]
    have h4 : (rs.map (·.2))[i]? = (L.map said)[i]? := by rw [hrs]
    rw [List.getElem?_map, List.getElem?_map, List.getElem?_eq_getElem hi1, List.getElem?_eq_getElem hi'] at h4
    exact Option.some.inj h4
  refine Lr.sameRecordsF_any b a d c Rs L n W (by rw [h.2.1, hl]) hn (by omega) h.1 (hr.below hW) hsd (fun r hr2 => ?_)
  obtain ⟨i, hi, rfl⟩ := List.getElem_of_mem hr2
  have hi' : i < L.length := by rw [hn, ← hl, ← h.2.1]; exact hi
  have h5 := hsd i hi hi'
  have h6 : (said Rs[i]).2 = (said L[i]).2 := by rw [h5]
  have h7 := Lr.wp_len (said L[i])
  have h8 := Lr.wr_le (L.map said) (said L[i]) (List.mem_map_of_mem (List.getElem_mem hi'))
  show (said Rs[i]).2.length ≤ _
  rw [h6]
  omega
/-- A loaded record's line and its pairs' number. -/
theorem ld_cells {w : World} {D : List RC} {a : Option Addr} {Rs : List RX} (h : LdRw w (rcs 2 D) a Rs) (i : Nat) (hi : i < D.length) : ∃ b o pa pc, a = some ⟨b, o, none⟩ ∧ w.cell? ⟨b, o + i * 3, none⟩ = some (.int .i64 (atL D i : Int)) ∧ w.cell? ⟨b, o + i * 3 + 2, none⟩ = some (.slice pa D[i].2.length pc) := by
  have hrl := rcs_len D 2
  have h1 : i < Rs.length := by rw [h.2.1, hrl]; exact hi
  have h2 : i < (rcs 2 D).length := by rw [hrl]; exact hi
  obtain ⟨b, o, rfl, c0, c1, c2⟩ := rrow_at h.1 i h1
  obtain ⟨e1, e2⟩ := h.2.2 i h1 h2
  have e3 : Rs[i].2.2.2.2 = D[i].2 := by
    have h4 : (rcs 2 D)[i].2 = D[i] := by
      have h5 : ((rcs 2 D).map (·.2))[i]? = D[i]? := by rw [rcs_said]
      rw [List.getElem?_map, List.getElem?_eq_getElem h2, List.getElem?_eq_getElem hi] at h5
      exact Option.some.inj h5
    have := congrArg Prod.snd e2
    rw [h4] at this
    exact this
  rw [e1, rcs_line] at c0
  rw [e3] at c2
  refine ⟨b, o, _, _, rfl, ?_, c2⟩
  have : 2 + 1 + ((D.take i).map (fun r => r.2.length + 2)).sum = atL D i := by unfold atL; omega
  rw [this] at c0
  exact c0
set_option maxHeartbeats 8000000 in
theorem rl_ok (a : Option Addr) (c : Nat) (L : List RX) (n : Nat) (hn : L.length = n) (d : Int) (hd : d ≤ 9223372036854775807) (w : World) (hr : RRow w a L) (hz : wt (L.map said) ≤ 1048576) (hAt : AlTab w) (hWt : WTab w) (hCt : ChgTab w) (h0 : L.map said ≠ []) (hok : ∀ r ∈ L.map said, rf r = 0) :
    Calls Tryz.prog 6 #[.slice a n c, .int .i64 d] w fun e w' => e = .returned (.bool true) ∧ Below w.heap.size w w' := by
  have hF : Hid (Calls Tryz.prog 7 #[] w fun e w' => e = .returned (.bool true) ∧ Below w.heap.size w w') := fixed_any w hWt hCt
  obtain ⟨D, hD⟩ : ∃ D, L.map said = D := ⟨_, rfl⟩
  have hDl : D.length = n := by rw [← hD, List.length_map, hn]
  have hV : renV D = .tuple #[.string (S (ren D)), .int .i64 0, .int .i64 0] := by rw [← hD]; exact Lr.renV_ok _ h0 (fun j hj => hok _ (List.getElem_mem hj))
  have hlen := Lr.ren_len D
  obtain ⟨r1, r2⟩ := rdT_ren D (by rw [← hD]; exact h0) (by rw [← hD]; exact hok)
  have r3 := ldR_ren D (by rw [← hD]; exact h0) (by rw [← hD]; exact hok)
  obtain ⟨T, hT⟩ : ∃ T, S (ren D) = T := ⟨_, rfl⟩
  have hTl : T.data.toList = ren D := by rw [← hT, S_l]
  have hTs : T.size ≤ 3145739 := by rw [← hT, S_size]; rw [← hD] at hlen ⊢; omega
  have hCa : Hid (∀ i, i < n → ∃ b off ln N pa m pc, a = some ⟨b, off, none⟩ ∧ (∀ W, Below w.heap.size w W → W.cell? ⟨b, off + i * 3, none⟩ = some (.int .i64 ln) ∧ W.cell? ⟨b, off + i * 3 + 1, none⟩ = some (.string N) ∧ W.cell? ⟨b, off + i * 3 + 2, none⟩ = some (.slice pa m pc)) ∧
      ∃ c, fitB D (i + 1) = (fitB D i && c) ∧ ∀ W, Below w.heap.size w W → Calls Tryz.prog 19 #[.agg #[.int .i64 ln, .string N, .slice pa m pc]] W fun e w' => e = .returned (.bool c) ∧ Below W.heap.size W w') := fun i hi => by rw [← hD]; exact can_at a L n hn w hr hz i hi
  have hC : Hid (∀ W, Below w.heap.size w W → Calls Tryz.prog 17 #[.slice a n c] W fun e w' => ∃ a2 c2 Os, e = .returned (.slice a2 n c2) ∧ CpQ W L n a2 c2 Os w') := fun W hW => Lr.copied_any a c L n W hn (hr.below hW) hz
  have hP : Hid (∀ W0 W a2 c2 Os, Below w.heap.size w W → CpQ W0 L n a2 c2 Os W → Calls Tryz.prog 16 #[.slice a2 n c2] W fun e w' => e = .returned (.tuple #[.string T, .int .i64 0, .int .i64 0]) ∧ Below W.heap.size W w') := fun W0 W a2 c2 Os hW hQ => by
    have h1 := hQ.said hn
    have := Lr.render_any a2 c2 Os W hQ.rrow (hAt.below hW) (hCt.below hW) (by rw [h1]; exact hz)
    rw [h1, hD, hV, hQ.1, hT] at this
    exact this
  have hU : Hid (∀ W0 W a2 c2 Os, Below w.heap.size w W → CpQ W0 L n a2 c2 Os W → Calls Tryz.prog 20 #[.slice a2 n c2, .slice a n c] W fun e w' => e = .returned (.bool true) ∧ Below W.heap.size W w') := fun W0 W a2 c2 Os hW hQ => Lr.untouched_any W0 a2 a c2 c Os L n W hn hz (hr.below hW) hQ
  have nb : (n : Int) ≤ 1048576 := by have := Lr.wt_len (L.map said); rw [List.length_map] at this; omega
  have hn0 : n ≠ 0 := fun e => h0 (List.eq_nil_of_length_eq_zero (by rw [List.length_map]; omega))
  have hend : Hid ((decide (0 < n) && fitB D n) = true) := by
    unfold Hid
    rw [Bool.and_eq_true]
    exact ⟨by simp; omega, (fitB_all D n hDl).2 (by rw [← hD]; exact hok)⟩
  have hLd : Hid (∀ W, Below w.heap.size w W → Calls Tryz.prog 10 #[.string T] W fun e w' => ∃ b e2 Rs, e = .returned (.tuple #[.slice b n e2, .int .i64 0, .int .i64 0]) ∧ LdRw w' (rcs 2 D) b Rs ∧ Below W.heap.size W w') := fun W hW => by
    have h := loads_any T (by omega) W (hWt.below hW) (hCt.below hW) n (by rw [hTl, r3, rcs_len]; exact hDl)
    rw [hTl, r1, r3] at h
    exact h
  have hSm : Hid (∀ W b e2 Rs, Below w.heap.size w W → LdRw W (rcs 2 D) b Rs → Calls Tryz.prog 18 #[.slice b n e2, .slice a n c, .bool false] W fun e w' => e = .returned (.bool true) ∧ Below W.heap.size W w') := fun W b e2 Rs hW h => same_ld hn hr hz (by rw [rcs_said, hD]) W hW b e2 Rs h
  have hcs : (d < 2) ∨ (¬ d < 2 ∧ ∃ T2 rs2, (∀ W, Calls Tryz.prog 21 #[.string T, .int .i64 d] W fun e w' => e = .returned (.tuple #[.string T2, .int .i64 0, .int .i64 0]) ∧ Below W.heap.size W w') ∧ (∀ W, Below w.heap.size w W → Calls Tryz.prog 10 #[.string T2] W fun e w' => ∃ b e2 Rs, e = .returned (.tuple #[.slice b n e2, .int .i64 0, .int .i64 0]) ∧ LdRw w' rs2 b Rs ∧ Below W.heap.size W w') ∧ ∀ W b e2 Rs, Below w.heap.size w W → LdRw W rs2 b Rs → Calls Tryz.prog 18 #[.slice b n e2, .slice a n c, .bool false] W fun e w' => e = .returned (.bool true) ∧ Below W.heap.size W w') := by
    by_cases h2 : d < 2
    · exact .inl h2
    · refine .inr ⟨h2, ?_⟩
      obtain ⟨k, rfl⟩ : ∃ k : Nat, d = (k : Int) := ⟨d.toNat, by omega⟩
      obtain ⟨q1, q2, q3, q4, q5, q6, q7, q8⟩ := refold_same (ren D) k (by omega) r2
      obtain ⟨X, hX⟩ : ∃ X, flds k (outL (phys (ren D))) = X := ⟨_, rfl⟩
      rw [hX] at q1 q2 q3 q4 q5 q6 q7 q8
      rw [r1] at q6
      have q9 : (rdT X).2.1 = 0 := q6.symm
      have q10 := rdT_zero q9
      rw [r3, rcs_said] at q7
      refine ⟨S X, ldR X, fun W => ?_, fun W hW => ?_, fun W b e2 Rs hW h => same_ld hn hr hz (by rw [← q7, hD]) W hW b e2 Rs h⟩
      · have h := refold_any T (by omega) (k : Int) hd W
        have e1 : rfT (phys T.data.toList) (k : Int) = X := by unfold rfT; rw [if_neg h2, hTl]; exact hX
        have e2 : rfE (phys T.data.toList) (k : Int) = (0, 0) := by unfold rfE outE; rw [if_neg h2, hTl, r2]
        rw [e1, e2] at h
        exact h
      · have h := loads_any (S X) (by rw [S_size]; rw [← hTl, size_l] at q8; omega) W (hWt.below hW) (hCt.below hW) n (by rw [S_l]; have := congrArg List.length q7; rw [List.length_map, hDl] at this; exact this.symm)
        rw [S_l, q9, q10] at h
        exact h
  have hat : Hid (∀ i (hi : i < D.length), atL D (i + 1) = atL D i + D[i].2.length + 2 ∧ atL D i ≤ 1048579 ∧ D[i].2.length ≤ 1048576) := fun i hi => by
    have h1 := atL_le D i
    have h2 := Lr.wp_len D[i]
    have h3 := Lr.wr_le D D[i] (List.getElem_mem hi)
    rw [hD] at hz
    exact ⟨atL_succ D i hi, by omega, by omega⟩
  have hDl' : Hid (D.length = n) := hDl
  clear hr hz hAt hWt hCt hok hn hD hV hT hDl h0 hlen r1 r2 r3 hTl hTs hd hn0
  go_enter Tryz.func6, Tryz.ntmps6
  go_wp2_with (go_at_call 7; refine hF.out.mono ?_; rintro e w1 ⟨rfl, hb1⟩; have H1 : Hid (Below w.heap.size w w1) := hb1; clear hb1 hF)
  go_loopw [5, 6] (fun fv iv wr => ∃ (i : Nat) (b : Bool), i ≤ n ∧ iv = .int .i64 (i : Int) ∧ fv = .bool b ∧ Hid ((decide (0 < n) && fitB D i) = b) ∧ Hid (Below w.heap.size w wr)) (fun _ iv _ => n - (intOf iv).toNat)
  case atStart => exact ⟨0, decide (0 < n), Nat.zero_le _, rfl, rfl, by unfold Hid fitB; simp, H1⟩
  case round =>
    clear H1
    obtain ⟨i, b, hi, rfl, rfl, hb, hB⟩ := hrel
    have i0 : (0 : Int) ≤ (i : Int) := Int.natCast_nonneg _
    by_cases hlt : i < n
    · have i1 : (i : Int) < (n : Int) := Int.ofNat_lt.2 hlt
      obtain ⟨bk, off, ln, N, pa, m, pc, rfl, hcl, cn, hfs, hcan⟩ := hCa.out i hlt
      obtain ⟨c0, c1, c2⟩ := hcl wr hB.out
      have hcan' : Hid (∀ W, Below w.heap.size w W → Calls Tryz.prog 19 #[.agg #[.int .i64 ln, .string N, .slice pa m pc]] W fun e w' => e = .returned (.bool cn) ∧ Below W.heap.size W w') := hcan
      have hlt' : Hid (i < n) := hlt
      have hnx : Hid ((decide (0 < n) && fitB D (i + 1)) = (b && cn)) := by unfold Hid; rw [hfs, ← Bool.and_assoc, hb.out]
      clear hcl hcan hfs hlt hi hb hcs
      cases cn
      all_goals
        go_wp2_with (go_at_call 19; refine (hcan'.out wr hB.out).mono ?_; rintro e w2 ⟨rfl, hb2⟩; have H2 : Hid (Below w.heap.size w w2) := hB.out.trans (hb2.mono hB.out.size); clear hb2)
        go_roundw
        case rel => exact ⟨i + 1, _, hlt'.out, by simp, rfl, by unfold Hid; rw [hnx.out]; simp, H2⟩
        case measure => have := hlt'.out; simp [intOf]; omega
    · have e : n = i := by omega
      subst e
      have i1 : ¬ (n : Int) < (n : Int) := by omega
      have hb' : b = true := by rw [← hb.out]; exact hend.out
      subst hb'
      have hcs' : Hid _ := hcs
      clear hb hlt hi hend hCa hcs
      go_wp2_with (first
        | (refine (Hid.out H5 |> fun _ => ?_); go_at_call 10; refine (hLd.out _ H5.out).mono ?_; rintro e w6 ⟨lb, lc, Rs, rfl, hR6, hb6⟩; have R6 : Hid (LdRw w6 (rcs 2 D) lb Rs) := hR6; have H6 : Hid (Below w.heap.size w w6) := H5.out.trans (hb6.mono H5.out.size); clear hb6 hR6)
        | (refine (Hid.out H6 |> fun _ => ?_); go_at_call 18; refine (hSm.out _ lb lc Rs H6.out R6.out).mono ?_; rintro e w7 ⟨rfl, hb7⟩; have R7 : Hid (LdRw w7 (rcs 2 D) lb Rs) := R6.out.below hb7; have H7 : Hid (Below w.heap.size w w7) := H6.out.trans (hb7.mono H6.out.size); clear hb7)
        | (refine (Hid.out H4 |> fun _ => ?_); go_at_call 20; refine (hU.out wr _ a2 c2 Os H4.out Q4.out).mono ?_; rintro e w5 ⟨rfl, hb5⟩; have H5 : Hid (Below w.heap.size w w5) := H4.out.trans (hb5.mono H4.out.size); clear hb5)
        | (go_at_call 9; refine (num_any _ _).mono ?_; rintro e w9 ⟨rfl, rfl⟩)
        | (refine (Hid.out H3 |> fun _ => ?_); go_at_call 16; refine (hP.out wr _ a2 c2 Os H3.out Q3.out).mono ?_; rintro e w4 ⟨rfl, hb4⟩; have H4 : Hid (Below w.heap.size w w4) := H3.out.trans (hb4.mono H3.out.size); have Q4 : Hid (CpQ wr L n a2 c2 Os w4) := Q3.out.below hb4; clear hb4)
        | (go_at_call 17; refine (hC.out wr hB.out).mono ?_; rintro e w3 ⟨a2, c2, Os, rfl, hQ⟩; have Q3 : Hid (CpQ wr L n a2 c2 Os w3) := hQ; have H3 : Hid (Below w.heap.size w w3) := hB.out.trans (hQ.2.2.2.2.2.2.mono hB.out.size); clear hQ))
      obtain ⟨W7, hW7⟩ : ∃ W, w7 = W := ⟨_, rfl⟩
      subst hW7
      clear hC hP hU hLd hSm Q3 Q4 H3 H4 H5 R6 hB
      try clear H6
      go_loopw [15, 16] (fun av iv wr2 => ∃ i A : Nat, i ≤ n ∧ iv = .int .i64 (i : Int) ∧ av = .int .i64 (A : Int) ∧ Hid (A = atL D i) ∧ w7 = wr2) (fun _ iv _ => n - (intOf iv).toNat)
      case atStart => exact ⟨0, 3, Nat.zero_le _, rfl, rfl, by unfold Hid atL; simp, rfl⟩
      case round =>
        obtain ⟨i, A, hi, rfl, rfl, hA, rfl⟩ := hrel
        have i0 : (0 : Int) ≤ (i : Int) := Int.natCast_nonneg _
        by_cases hlt : i < n
        · have j1 : (i : Int) < (n : Int) := Int.ofNat_lt.2 hlt
          have hiD : i < D.length := by rw [hDl'.out]; exact hlt
          obtain ⟨g, o, pa, pc, rfl, c0, c2⟩ := ld_cells R7.out i hiD
          obtain ⟨t1, t2, t3⟩ := hat.out i hiD
          rw [← hA.out] at c0 t1 t2
          have hnx : Hid (A + D[i].2.length + 2 = atL D (i + 1)) := t1.symm
          obtain ⟨m, hm⟩ : ∃ m, D[i].2.length = m := ⟨_, rfl⟩
          rw [hm] at c2 hnx t3
          have A0 : (0 : Int) ≤ (A : Int) := Int.natCast_nonneg _
          have A1 : (A : Int) ≤ 1048579 := by omega
          have m0 : (0 : Int) ≤ (m : Int) := Int.natCast_nonneg _
          have m1 : (m : Int) ≤ 1048576 := by omega
          have hlt' : Hid (i < n) := hlt
          clear t1 t2 t3 hm hiD hlt hi hA
          go_wp2_with fail
          go_roundw
          case rel => exact ⟨i + 1, A + m + 2, hlt'.out, by simp, by simp, hnx, by trivial⟩
          case measure => have := hlt'.out; simp [intOf]; omega
        · have e : n = i := by omega
          subst e
          have k1 : ¬ (n : Int) < (n : Int) := by omega
          clear hlt hi hA
          rcases hcs'.out with h2 | ⟨h2, T2, rs2, hRf, hL2, hS2⟩
          · go_wp2_with fail
            go_ret
            exact ⟨rfl, H7.out⟩
          · have hRf' : Hid (∀ W, Calls Tryz.prog 21 #[.string T, .int .i64 d] W fun e w' => e = .returned (.tuple #[.string T2, .int .i64 0, .int .i64 0]) ∧ Below W.heap.size W w') := hRf
            have hL2' : Hid (∀ W, Below w.heap.size w W → Calls Tryz.prog 10 #[.string T2] W fun e w' => ∃ b e2 Rs, e = .returned (.tuple #[.slice b n e2, .int .i64 0, .int .i64 0]) ∧ LdRw w' rs2 b Rs ∧ Below W.heap.size W w') := hL2
            have hS2' : Hid (∀ W b e2 Rs, Below w.heap.size w W → LdRw W rs2 b Rs → Calls Tryz.prog 18 #[.slice b n e2, .slice a n c, .bool false] W fun e w' => e = .returned (.bool true) ∧ Below W.heap.size W w') := hS2
            clear hRf hL2 hS2
            go_wp2_with (first
              | (refine (Hid.out H8 |> fun _ => ?_); go_at_call 10; refine (hL2'.out _ H8.out).mono ?_; rintro e wa ⟨lb2, lc2, Rs2, rfl, hRa, hba⟩; have Ra : Hid (LdRw wa rs2 lb2 Rs2) := hRa; have Ha : Hid (Below w.heap.size w wa) := H8.out.trans (hba.mono H8.out.size); clear hba hRa)
              | (refine (Hid.out Ha |> fun _ => ?_); go_at_call 18; refine (hS2'.out _ lb2 lc2 Rs2 Ha.out Ra.out).mono ?_; rintro e wb ⟨rfl, hbb⟩; have Hb : Hid (Below w.heap.size w wb) := Ha.out.trans (hbb.mono Ha.out.size); clear hbb)
              | (go_at_call 9; refine (num_any _ _).mono ?_; rintro e w9 ⟨rfl, rfl⟩)
              | (go_at_call 21; refine (hRf'.out _).mono ?_; rintro e w8 ⟨rfl, hb8⟩; have H8 : Hid (Below w.heap.size w w8) := H7.out.trans (hb8.mono H7.out.size); clear hb8))
            go_ret
            exact ⟨rfl, Hb.out⟩
theorem ldifRenderLoad_walk (a : Option Addr) (c : Nat) (L : List RX) (n : Nat) (hn : L.length = n) (d : Int) (hd : d ≤ 9223372036854775807) (w : World) (hr : RRow w a L) (hz : wt (L.map said) ≤ 1048576) (hAt : AlTab w) (hWt : WTab w) (hCt : ChgTab w) :
    Calls Tryz.prog 6 #[.slice a n c, .int .i64 d] w fun e w' => e = .returned (.bool true) ∧ Below w.heap.size w w' := by
  by_cases h : L.map said ≠ [] ∧ ∀ r ∈ L.map said, rf r = 0
  · exact rl_ok a c L n hn d hd w hr hz hAt hWt hCt h.1 h.2
  · exact rl_bad a c L n hn d w hr hz hAt hWt hCt h
end Rd
end Go.Proofs.YtfpphhbpoaobfaaGreatDoor
