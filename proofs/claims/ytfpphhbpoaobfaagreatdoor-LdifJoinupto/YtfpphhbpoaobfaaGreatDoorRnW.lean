import Derived.Test.YtfpphhbpoaobfaaGreatDoorRnC
import Derived.Test.YtfpphhbpoaobfaaGreatDoorRnM
import Derived.Test.YtfpphhbpoaobfaaGreatDoorGFo
import Derived.Test.YtfpphhbpoaobfaaGreatDoorGRI
import Derived.BigQuiet
namespace Go.Proofs.YtfpphhbpoaobfaaGreatDoor
namespace Rd
open Go.RowKit
open LdMath
open Lr (PR RC pf rf chg okD dnB ren renV ChgTab GOwn GRow pV pV_len Kd PX RX rV rV_len append_gen RRow PRow said rrow_at prow_at drewN_below wt wRc CpQ)
set_option linter.unusedVariables false
set_option maxRecDepth 100000

/-- May all of the first i stand. -/
def fitB (D : List RC) (i : Nat) : Bool := (D.take i).all (fun r => decide (rf r = 0))
theorem fitB_succ (D : List RC) (i : Nat) (h : i < D.length) : fitB D (i + 1) = (fitB D i && decide (rf D[i] = 0)) := by
  unfold fitB
  rw [List.take_succ_eq_append_getElem h, List.all_append]
  simp
theorem fitB_all (D : List RC) (n : Nat) (hn : D.length = n) : fitB D n = true ↔ ∀ r ∈ D, rf r = 0 := by
  unfold fitB
  rw [List.take_of_length_le (by omega), List.all_eq_true]
  simp
theorem renV_err (D : List RC) (h : ¬ (D ≠ [] ∧ ∀ r ∈ D, rf r = 0)) : ∃ E K : Int, renV D = .tuple #[.string ⟨#[]⟩, .int .i64 E, .int .i64 K] ∧ (E != 0) = true := by
  by_cases h0 : D = []
  · subst h0
    exact ⟨73, 0, rfl, by decide⟩
  · have hx : ∃ i, ∃ hi : i < D.length, rf D[i] ≠ 0 := Classical.byContradiction fun hc => h ⟨h0, fun r hr => by
      obtain ⟨i, hi, rfl⟩ := List.getElem_of_mem hr
      exact Classical.byContradiction fun hn => hc ⟨i, hi, hn⟩⟩
    have key : ∀ k, (∃ i, ∃ hi : i < D.length, i < k ∧ rf D[i] ≠ 0) → ∃ i, ∃ hi : i < D.length, rf D[i] ≠ 0 ∧ ∀ j (hj : j < D.length), j < i → rf D[j] = 0 := by
      intro k
      induction k with
      | zero => rintro ⟨i, hi, h1, _⟩; omega
      | succ k ih =>
        rintro ⟨i, hi, h1, h2⟩
        by_cases hc : ∃ i, ∃ hi : i < D.length, i < k ∧ rf D[i] ≠ 0
        · exact ih hc
        · refine ⟨i, hi, h2, fun j hj hlt => Classical.byContradiction fun hn => hc ⟨j, hj, by omega, hn⟩⟩
    obtain ⟨i, hi, h2⟩ := hx
    obtain ⟨i, hi, h2, h3⟩ := key (i + 1) ⟨i, hi, by omega, h2⟩
    exact ⟨_, _, Lr.renV_bad D i hi h3 h2, by rw [bne_iff_ne]; omega⟩
/-- The line of the record i. -/
def atL (D : List RC) (i : Nat) : Nat := 3 + ((D.take i).map (fun r => r.2.length + 2)).sum
theorem atL_succ (D : List RC) (i : Nat) (h : i < D.length) : atL D (i + 1) = atL D i + D[i].2.length + 2 := by
  unfold atL
  rw [List.take_succ_eq_append_getElem h, List.map_append, List.sum_append]
  simp
  omega
theorem atL_le (D : List RC) (i : Nat) : atL D i ≤ 3 + wt D := by
  have h1 : ∀ E : List RC, (E.map (fun r => r.2.length + 2)).sum ≤ wt E := by
    intro E
    unfold wt
    induction E with
    | nil => simp
    | cons r E ih =>
      have := Lr.wp_len r
      have h4 : r.2.length + 2 ≤ wRc r := by
        have h5 : r.2.length ≤ (r.2.map Lr.wp).sum := by
          generalize r.2 = l
          induction l with
          | nil => simp
          | cons y t ih => simp only [List.map_cons, List.sum_cons, List.length_cons, Lr.wp] at ih ⊢; omega
        unfold wRc
        omega
      simp only [List.map_cons, List.sum_cons]
      omega
  have h2 := h1 (D.take i)
  have h3 := Lr.wt_take D i
  unfold atL
  omega
/-- What both walks lean on. -/
theorem can_at (a : Option Addr) (L : List RX) (n : Nat) (hn : L.length = n) (w : World) (hr : RRow w a L) (hz : wt (L.map said) ≤ 1048576) (i : Nat) (hi : i < n) : ∃ b off ln N pa m pc, a = some ⟨b, off, none⟩ ∧ (∀ W, Below w.heap.size w W → W.cell? ⟨b, off + i * 3, none⟩ = some (.int .i64 ln) ∧ W.cell? ⟨b, off + i * 3 + 1, none⟩ = some (.string N) ∧ W.cell? ⟨b, off + i * 3 + 2, none⟩ = some (.slice pa m pc)) ∧
    ∃ c, fitB (L.map said) (i + 1) = (fitB (L.map said) i && c) ∧ ∀ W, Below w.heap.size w W → Calls Tryz.prog 19 #[.agg #[.int .i64 ln, .string N, .slice pa m pc]] W fun e w' => e = .returned (.bool c) ∧ Below W.heap.size W w' := by
  have hi' : i < L.length := by omega
  have hiD : i < (L.map said).length := by rw [List.length_map]; exact hi'
  obtain ⟨b, off, rfl, c0, c1, c2⟩ := rrow_at hr i hi'
  have r1 := (hr.2 _ (List.getElem_mem hi')).1
  have hwz : wRc (said L[i]) ≤ 1048576 := Nat.le_trans (Lr.wr_le _ _ (List.mem_map_of_mem (List.getElem_mem hi'))) hz
  refine ⟨b, off, L[i].1, S L[i].2.1, L[i].2.2.1, L[i].2.2.2.2.length, L[i].2.2.2.1, rfl, fun W hW => ⟨?_, ?_, ?_⟩, decide (rf (said L[i]) = 0), ?_, fun W hW => ?_⟩
  · rw [hW.cell (World.block_lt_of_cell? w _ c0)]; exact c0
  · rw [hW.cell (World.block_lt_of_cell? w _ c1)]; exact c1
  · rw [hW.cell (World.block_lt_of_cell? w _ c2)]; exact c2
  · rw [fitB_succ _ i hiD, List.getElem_map]
  · exact Lr.can_any L[i].1 L[i].2.1 L[i].2.2.1 L[i].2.2.2.1 L[i].2.2.2.2 _ rfl W (r1.below pV_len hW) hwz

set_option maxHeartbeats 4000000 in
theorem rl_bad (a : Option Addr) (c : Nat) (L : List RX) (n : Nat) (hn : L.length = n) (d : Int) (w : World) (hr : RRow w a L) (hz : wt (L.map said) ≤ 1048576) (hAt : AlTab w) (hWt : WTab w) (hCt : ChgTab w) (hbad : ¬ (L.map said ≠ [] ∧ ∀ r ∈ L.map said, rf r = 0)) :
    Calls Tryz.prog 6 #[.slice a n c, .int .i64 d] w fun e w' => e = .returned (.bool true) ∧ Below w.heap.size w w' := by
  have hF : Hid (Calls Tryz.prog 7 #[] w fun e w' => e = .returned (.bool true) ∧ Below w.heap.size w w') := fixed_any w hWt hCt
  obtain ⟨D, hD⟩ : ∃ D, L.map said = D := ⟨_, rfl⟩
  have hDl : D.length = n := by rw [← hD, List.length_map, hn]
  obtain ⟨E, K, hV, hE⟩ := renV_err _ hbad
  have hCa : Hid (∀ i, i < n → ∃ b off ln N pa m pc, a = some ⟨b, off, none⟩ ∧ (∀ W, Below w.heap.size w W → W.cell? ⟨b, off + i * 3, none⟩ = some (.int .i64 ln) ∧ W.cell? ⟨b, off + i * 3 + 1, none⟩ = some (.string N) ∧ W.cell? ⟨b, off + i * 3 + 2, none⟩ = some (.slice pa m pc)) ∧
      ∃ c, fitB D (i + 1) = (fitB D i && c) ∧ ∀ W, Below w.heap.size w W → Calls Tryz.prog 19 #[.agg #[.int .i64 ln, .string N, .slice pa m pc]] W fun e w' => e = .returned (.bool c) ∧ Below W.heap.size W w') := fun i hi => by rw [← hD]; exact can_at a L n hn w hr hz i hi
  have hC : Hid (∀ W, Below w.heap.size w W → Calls Tryz.prog 17 #[.slice a n c] W fun e w' => ∃ a2 c2 Os, e = .returned (.slice a2 n c2) ∧ CpQ W L n a2 c2 Os w') := fun W hW => Lr.copied_any a c L n W hn (hr.below hW) hz
  obtain ⟨T, hT⟩ : ∃ T : ByteArray, (⟨#[]⟩ : ByteArray) = T := ⟨_, rfl⟩
  have hTe : (T.toList == []) = true := by rw [← hT, Lib.toList_data]; rfl
  have hP : Hid (∀ W0 W a2 c2 Os, Below w.heap.size w W → CpQ W0 L n a2 c2 Os W → Calls Tryz.prog 16 #[.slice a2 n c2] W fun e w' => e = .returned (.tuple #[.string T, .int .i64 E, .int .i64 K]) ∧ Below W.heap.size W w') := fun W0 W a2 c2 Os hW hQ => by
    have h1 := hQ.said hn
    have := Lr.render_any a2 c2 Os W hQ.rrow (hAt.below hW) (hCt.below hW) (by rw [h1]; exact hz)
    rw [h1, hV, hQ.1, hT] at this
    exact this
  have hU : Hid (∀ W0 W a2 c2 Os, Below w.heap.size w W → CpQ W0 L n a2 c2 Os W → Calls Tryz.prog 20 #[.slice a2 n c2, .slice a n c] W fun e w' => e = .returned (.bool true) ∧ Below W.heap.size W w') := fun W0 W a2 c2 Os hW hQ => Lr.untouched_any W0 a2 a c2 c Os L n W hn hz (hr.below hW) hQ
  have nb : (n : Int) ≤ 1048576 := by have := Lr.wt_len (L.map said); rw [List.length_map] at this; omega
  have hend : Hid ((decide (0 < n) && fitB D n) = false) := by
    unfold Hid
    rw [Bool.and_eq_false_iff]
    by_cases h0 : n = 0
    · exact .inl (by simp [h0])
    · refine .inr ?_
      cases hfb : fitB D n with
      | false => rfl
      | true =>
        rw [hD] at hbad
        exact absurd ⟨fun e => h0 (by rw [← hDl, e]; rfl), (fitB_all D n hDl).1 hfb⟩ hbad
  clear hr hz hAt hWt hCt hbad hn hD hV hT hDl
  go_enter Tryz.func6, Tryz.ntmps6
  go_wp2_with (go_at_call 7; refine hF.out.mono ?_; rintro e w1 ⟨rfl, hb1⟩; have H1 : Hid (Below w.heap.size w w1) := hb1; clear hb1 hF)
  go_loopw [5, 6] (fun fv iv wr => ∃ (i : Nat) (b : Bool), i ≤ n ∧ iv = .int .i64 (i : Int) ∧ fv = .bool b ∧ Hid ((decide (0 < n) && fitB D i) = b) ∧ Hid (Below w.heap.size w wr)) (fun _ iv _ => n - (intOf iv).toNat)
  case atStart => exact ⟨0, decide (0 < n), Nat.zero_le _, rfl, rfl, by unfold Hid fitB; simp, H1⟩
  case round =>
    clear H1
    obtain ⟨i, b, hi, rfl, rfl, hb, hB⟩ := hrel
    have i0 : (0 : Int) ≤ (i : Int) := Int.natCast_nonneg _
    by_cases hlt : i < n
    · have i1 : (i : Int) < (n : Int) := Int.ofNat_lt.2 hlt
      obtain ⟨bk, off, ln, N, pa, m, pc, rfl, hcl, cn, hfs, hcan⟩ := hCa.out i hlt
      obtain ⟨c0, c1, c2⟩ := hcl wr hB.out
      have hcan' : Hid (∀ W, Below w.heap.size w W → Calls Tryz.prog 19 #[.agg #[.int .i64 ln, .string N, .slice pa m pc]] W fun e w' => e = .returned (.bool cn) ∧ Below W.heap.size W w') := hcan
      have hlt' : Hid (i < n) := hlt
      have hnx : Hid ((decide (0 < n) && fitB D (i + 1)) = (b && cn)) := by unfold Hid; rw [hfs, ← Bool.and_assoc, hb.out]
      clear hcl hcan hfs hlt hi hb
      cases cn
      all_goals
        go_wp2_with (go_at_call 19; refine (hcan'.out wr hB.out).mono ?_; rintro e w2 ⟨rfl, hb2⟩; have H2 : Hid (Below w.heap.size w w2) := hB.out.trans (hb2.mono hB.out.size); clear hb2)
        go_roundw
        case rel => exact ⟨i + 1, _, hlt'.out, by simp, rfl, by unfold Hid; rw [hnx.out]; simp, H2⟩
        case measure => have := hlt'.out; simp [intOf]; omega
    · have e : n = i := by omega
      subst e
      have i1 : ¬ (n : Int) < (n : Int) := by omega
      have hb' : b = false := by rw [← hb.out]; exact hend.out
      subst hb'
      clear hb hlt hi hend hCa
      go_wp2_with (first
        | (refine (Hid.out H4 |> fun _ => ?_); go_at_call 20; refine (hU.out wr _ a2 c2 Os H4.out Q4.out).mono ?_; rintro e w5 ⟨rfl, hb5⟩; have H5 : Hid (Below w.heap.size w w5) := H4.out.trans (hb5.mono H4.out.size); clear hb5)
        | (go_at_call 9; refine (num_any _ _).mono ?_; rintro e w9 ⟨rfl, rfl⟩)
        | (refine (Hid.out H3 |> fun _ => ?_); go_at_call 16; refine (hP.out wr _ a2 c2 Os H3.out Q3.out).mono ?_; rintro e w4 ⟨rfl, hb4⟩; have H4 : Hid (Below w.heap.size w w4) := H3.out.trans (hb4.mono H3.out.size); have Q4 : Hid (CpQ wr L n a2 c2 Os w4) := Q3.out.below hb4; clear hb4)
        | (go_at_call 17; refine (hC.out wr hB.out).mono ?_; rintro e w3 ⟨a2, c2, Os, rfl, hQ⟩; have Q3 : Hid (CpQ wr L n a2 c2 Os w3) := hQ; have H3 : Hid (Below w.heap.size w w3) := hB.out.trans (hQ.2.2.2.2.2.2.mono hB.out.size); clear hQ))
      go_ret
      exact ⟨rfl, H5.out⟩
end Rd
end Go.Proofs.YtfpphhbpoaobfaaGreatDoor
