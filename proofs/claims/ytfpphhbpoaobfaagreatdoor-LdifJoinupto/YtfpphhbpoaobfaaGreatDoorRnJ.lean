import Derived.Test.YtfpphhbpoaobfaaGreatDoorRnX
import Derived.Test.YtfpphhbpoaobfaaGreatDoorLrO
import Derived.Lib.AppendZeros
namespace Go.Proofs.YtfpphhbpoaobfaaGreatDoor
namespace Rd
open Go.RowKit
open LdMath
open Lr (PR RC pf rf chg okD dnB ren renV ChgTab GOwn GRow pV pV_len Kd PX RX rV rV_len append_gen RRow PRow said rrow_at prow_at drewN_below wt wRc CpQ KDr)
set_option linter.unusedVariables false
set_option maxRecDepth 100000

theorem renV_three (D : List RC) : ∃ s x k, renV D = .tuple #[.string s, .int .i64 x, .int .i64 k] ∧ (((x != 0) = true ∧ ¬ (D ≠ [] ∧ ∀ r ∈ D, rf r = 0)) ∨ (x = 0 ∧ s = S (ren D) ∧ D ≠ [] ∧ ∀ r ∈ D, rf r = 0)) := by
  by_cases h : D ≠ [] ∧ ∀ r ∈ D, rf r = 0
  · exact ⟨_, _, _, Lr.renV_ok D h.1 (fun j hj => h.2 _ (List.getElem_mem hj)), .inr ⟨rfl, rfl, h⟩⟩
  · obtain ⟨E, K, h1, h2⟩ := renV_err D h
    exact ⟨_, _, _, h1, .inl ⟨h2, h⟩⟩
theorem wt_app (A B : List RC) : wt (A ++ B) = wt A + wt B := by unfold wt; rw [List.map_append, List.sum_append]
def oneX (b : Nat) : RX := (0, [111, 61, 120], some ⟨b, 0, none⟩, 1, [([111], [120])])
def oneT : List UInt8 := [118, 101, 114, 115, 105, 111, 110, 58, 32, 49, 10, 10, 100, 110, 58, 32, 111, 61, 120, 10, 111, 58, 32, 120, 10]
theorem one_ren (b : Nat) : renV ([oneX b].map said) = .tuple #[.string (S oneT), .int .i64 0, .int .i64 0] := by
  have e : [oneX b].map said = [([111, 61, 120], [([111], [120])])] := rfl
  rw [e, Lr.renV_ok _ (by simp) (by decide)]
  rfl
/-- The rows of both, one behind the other. -/
theorem both_rows {w W : World} {a b : Option Addr} {L M : List RX} {n m c d : Nat} (hn : L.length = n) (hm : M.length = m) (hL : RRow w a L) (hM : RRow w b M) (hb : Below w.heap.size w W) (hz : wt (L.map said) + wt (M.map said) ≤ 1048576) :
    ∃ v1 W1 ab cb W2, (Builtin.append_ #[28, 28] 28 #[.slice none 0 0, .slice a n c]).run Tryz.prog W = .ok v1 W1 ∧ (Builtin.append_ #[28, 28] 28 #[v1, .slice b m d]).run Tryz.prog W1 = .ok (.slice ab (n + m) cb) W2 ∧ RRow W2 ab (L ++ M) ∧ Below w.heap.size w W2 ∧ ∃ a1 n1 c1, v1 = .slice a1 n1 c1 := by
  have hl1 := Lr.wt_len (L.map said)
  have hl2 := Lr.wt_len (M.map said)
  rw [List.length_map] at hl1 hl2
  have hLW := hL.below hb
  obtain ⟨v1, W1, e1, o1, g1, b1⟩ := append_gen KDr W W.heap.size (.slice none 0 0) [] L a n c (GOwn.nil _ _ _ _ _) hLW.1 hn.symm (Nat.le_refl _) (by simp only [List.length_nil]; omega)
  rw [List.nil_append] at o1
  have hb1 : Below w.heap.size w W1 := hb.trans (b1.mono hb.size)
  have hMW := hM.below hb1
  obtain ⟨v2, W2, e2, o2, g2, b2⟩ := append_gen KDr W1 W.heap.size v1 L M b m d o1 hMW.1 hm.symm b1.size (by omega)
  have hb2 : Below w.heap.size w W2 := hb1.trans (b2.mono hb.size)
  obtain ⟨a1, c1, r1, _, _, _⟩ := o1.row rV_len
  obtain ⟨ab, cb, r2, _, _, r3⟩ := o2.row rV_len
  subst r2
  rw [List.length_append, hn, hm] at e2
  refine ⟨v1, W1, ab, cb, W2, e1, e2, ⟨r3, fun r hr => ?_⟩, hb2, a1, _, c1, r1⟩
  rcases List.mem_append.1 hr with h | h
  · have := (hL.below hb2).2 r h
    exact this
  · have := (hM.below hb2).2 r h
    exact this
set_option maxHeartbeats 8000000 in
theorem ldifJoin_walk (a : Option Addr) (c : Nat) (L : List RX) (n : Nat) (hn : L.length = n) (b : Option Addr) (d : Nat) (M : List RX) (m : Nat) (hm : M.length = m) (w : World) (hL : RRow w a L) (hM : RRow w b M) (hz : wt (L.map said) + wt (M.map said) ≤ 1048576) (hAt : AlTab w) (hWt : WTab w) (hCt : ChgTab w) :
    Calls Tryz.prog 5 #[.slice a n c, .slice b m d] w fun e w' => e = .returned (.bool true) ∧ Below w.heap.size w w' := by
  have hl1 := Lr.wt_len (L.map said)
  have hl2 := Lr.wt_len (M.map said)
  rw [List.length_map] at hl1 hl2
  obtain ⟨sA, xA, kA, hVA, hcA⟩ := renV_three (L.map said)
  obtain ⟨sB, xB, kB, hVB, hcB⟩ := renV_three (M.map said)
  obtain ⟨sU, xU, kU, hVU, hcU⟩ := renV_three ((L ++ M).map said)
  have hzU : wt ((L ++ M).map said) ≤ 1048576 := by rw [List.map_append, wt_app]; exact hz
  have hCa : Hid (∀ W, Below w.heap.size w W → Calls Tryz.prog 17 #[.slice a n c] W fun e w' => ∃ a2 c2 Os, e = .returned (.slice a2 n c2) ∧ CpQ W L n a2 c2 Os w') := fun W hW => Lr.copied_any a c L n W hn (hL.below hW) (by omega)
  have hCb : Hid (∀ W, Below w.heap.size w W → Calls Tryz.prog 17 #[.slice b m d] W fun e w' => ∃ a2 c2 Os, e = .returned (.slice a2 m c2) ∧ CpQ W M m a2 c2 Os w') := fun W hW => Lr.copied_any b d M m W hm (hM.below hW) (by omega)
  have hCu : Hid (∀ W ab cb, RRow W ab (L ++ M) → Calls Tryz.prog 17 #[.slice ab (n + m) cb] W fun e w' => ∃ a2 c2 Os, e = .returned (.slice a2 (n + m) c2) ∧ CpQ W (L ++ M) (n + m) a2 c2 Os w') := fun W ab cb h => Lr.copied_any ab cb (L ++ M) (n + m) W (by rw [List.length_append, hn, hm]) h hzU
  have hPg : ∀ (X : List RX) (k : Nat) (s : ByteArray) (x q : Int), X.length = k → wt (X.map said) ≤ 1048576 → renV (X.map said) = .tuple #[.string s, .int .i64 x, .int .i64 q] → ∀ W0 W a2 c2 Os, Below w.heap.size w W → CpQ W0 X k a2 c2 Os W → Calls Tryz.prog 16 #[.slice a2 k c2] W fun e w' => e = .returned (.tuple #[.string s, .int .i64 x, .int .i64 q]) ∧ Below W.heap.size W w' := fun X k s x q hk hzx hV W0 W a2 c2 Os hW hQ => by
    have h1 := hQ.said hk
    have := Lr.render_any a2 c2 Os W hQ.rrow (hAt.below hW) (hCt.below hW) (by rw [h1]; exact hzx)
    rw [h1, hV, hQ.1] at this
    exact this
  have hPa : Hid (∀ W0 W a2 c2 Os, Below w.heap.size w W → CpQ W0 L n a2 c2 Os W → Calls Tryz.prog 16 #[.slice a2 n c2] W fun e w' => e = .returned (.tuple #[.string sA, .int .i64 xA, .int .i64 kA]) ∧ Below W.heap.size W w') := hPg L n sA xA kA hn (by omega) hVA
  have hPb : Hid (∀ W0 W a2 c2 Os, Below w.heap.size w W → CpQ W0 M m a2 c2 Os W → Calls Tryz.prog 16 #[.slice a2 m c2] W fun e w' => e = .returned (.tuple #[.string sB, .int .i64 xB, .int .i64 kB]) ∧ Below W.heap.size W w') := hPg M m sB xB kB hm (by omega) hVB
  have hPu : Hid (∀ W0 W a2 c2 Os, Below w.heap.size w W → CpQ W0 (L ++ M) (n + m) a2 c2 Os W → Calls Tryz.prog 16 #[.slice a2 (n + m) c2] W fun e w' => e = .returned (.tuple #[.string sU, .int .i64 xU, .int .i64 kU]) ∧ Below W.heap.size W w') := hPg (L ++ M) (n + m) sU xU kU (by rw [List.length_append, hn, hm]) hzU hVU
  have hBr : Hid (∀ W, Below w.heap.size w W → ∃ v1 W1 ab cb W2, (Builtin.append_ #[28, 28] 28 #[.slice none 0 0, .slice a n c]).run Tryz.prog W = .ok v1 W1 ∧ (Builtin.append_ #[28, 28] 28 #[v1, .slice b m d]).run Tryz.prog W1 = .ok (.slice ab (n + m) cb) W2 ∧ RRow W2 ab (L ++ M) ∧ Below w.heap.size w W2 ∧ ∃ a1 n1 c1, v1 = .slice a1 n1 c1) := fun W hW => both_rows hn hm hL hM hW hz
  obtain ⟨K, hK⟩ : ∃ K, S oneT = K := ⟨_, rfl⟩
  have hKt : (K.toList == [118, 101, 114, 115, 105, 111, 110, 58, 32, 49, 10, 10, 100, 110, 58, 32, 111, 61, 120, 10, 111, 58, 32, 120, 10]) = true := by rw [Lib.toList_data, ← hK, S_l]; rfl
  obtain ⟨Wa, hWa⟩ : ∃ Wa, w.alloc (.cells #[.string { data := #[111] }, .string { data := #[120] }] 46) = Wa := ⟨_, rfl⟩
  obtain ⟨Wb, hWb⟩ : ∃ Wb, Wa.alloc (.cells #[.int .i64 0, .string { data := #[111, 61, 120] }, .slice (some ⟨w.heap.size, 0, none⟩) 1 1] 36) = Wb := ⟨_, rfl⟩
  have hba : Below w.heap.size w Wa := by rw [← hWa]; exact (Below.refl _ _).alloc (Nat.le_refl _) _
  have hbb' : Below Wa.heap.size Wa Wb := by rw [← hWb]; exact (Below.refl _ _).alloc (Nat.le_refl _) _
  have hbb : Hid (Below w.heap.size w Wb) := hba.trans (hbb'.mono hba.size)
  have hR1 : Hid (Calls Tryz.prog 16 #[.slice (some ⟨Wa.heap.size, 0, none⟩) 1 1] Wb fun e w' => e = .returned (.tuple #[.string K, .int .i64 0, .int .i64 0]) ∧ Below Wb.heap.size Wb w') := by
    have r1 : PRow Wa (some ⟨w.heap.size, 0, none⟩) [([111], [120])] := by rw [← hWa]; exact GRow.one pV w 46 ([111], [120])
    have r2 : GRow 3 rV Wb (some ⟨Wa.heap.size, 0, none⟩) [oneX w.heap.size] := by rw [← hWb]; exact GRow.one rV Wa 36 (oneX w.heap.size)
    have r3 : RRow Wb (some ⟨Wa.heap.size, 0, none⟩) [oneX w.heap.size] := by
      refine ⟨r2, fun r hr => ?_⟩
      rw [List.mem_singleton.1 hr]
      exact ⟨r1.below pV_len hbb', by unfold oneX; simp, by unfold oneX maxLen; simp⟩
    have := Lr.render_any _ 1 [oneX w.heap.size] Wb r3 (hAt.below hbb.out) (hCt.below hbb.out) (by show wt [([111, 61, 120], [([111], [120])])] ≤ 1048576; decide)
    rw [one_ren, hK] at this
    exact this
  have nb : (n : Int) ≤ 1048576 := by omega
  have mb : (m : Int) ≤ 1048576 := by omega
  have hcase : ((xA != 0) = true ∨ ((xA != 0) = false ∧ (xB != 0) = true)) ∧ ((xU != 0) = true ∨ ((xU != 0) = false ∧ ((n : Int) == 0) = true) ∨ ((xU != 0) = false ∧ ((n : Int) == 0) = false ∧ ((m : Int) == 0) = true)) ∨ (xA = 0 ∧ xB = 0 ∧ xU = 0 ∧ ¬ (sB.size : Int) < 11 ∧ sU = sA ++ sB.extract 11 sB.size ∧ sA.size ≤ 3145739 ∧ sB.size ≤ 3145739 ∧ ∀ W, Below w.heap.size w W → ∀ ab cb, RRow W ab (L ++ M) → Calls Tryz.prog 10 #[.string sU] W fun e w' => ∃ lb lc, e = .returned (.tuple #[.slice lb (n + m) lc, .int .i64 0, .int .i64 0]) ∧ Below W.heap.size W w' ∧ Calls Tryz.prog 18 #[.slice lb (n + m) lc, .slice ab (n + m) cb, .bool false] w' fun e w'' => e = .returned (.bool true) ∧ Below w'.heap.size w' w'') := by
    rcases hcA with ⟨hA, hA'⟩ | ⟨hA, hA1, hA2, hA3⟩
    · refine .inl ⟨.inl hA, ?_⟩
      by_cases hU : (xU != 0) = true
      · exact .inl hU
      · refine .inr (.inl ⟨by simpa using hU, ?_⟩)
        rcases hcU with ⟨h1, _⟩ | ⟨_, _, _, h3⟩
        · exact absurd h1 hU
        · have : L.map said = [] := Classical.byContradiction fun hne => hA' ⟨hne, fun r hr => h3 r (by rw [List.map_append]; exact List.mem_append_left _ hr)⟩
          have : n = 0 := by rw [← hn, ← List.length_map (f := said), this]; rfl
          simp [this]
    · rcases hcB with ⟨hB, hB'⟩ | ⟨hB, hB1, hB2, hB3⟩
      · refine .inl ⟨.inr ⟨by rw [hA]; rfl, hB⟩, ?_⟩
        by_cases hU : (xU != 0) = true
        · exact .inl hU
        · have hn0 : n ≠ 0 := fun e => hA2 (List.eq_nil_of_length_eq_zero (by rw [List.length_map]; omega))
          refine .inr (.inr ⟨by simpa using hU, by rw [beq_eq_false_iff_ne]; omega, ?_⟩)
          rcases hcU with ⟨h1, _⟩ | ⟨_, _, _, h3⟩
          · exact absurd h1 hU
          · have : M.map said = [] := Classical.byContradiction fun hne => hB' ⟨hne, fun r hr => h3 r (by rw [List.map_append]; exact List.mem_append_right _ hr)⟩
            have : m = 0 := by rw [← hm, ← List.length_map (f := said), this]; rfl
            simp [this]
      · have hall : ∀ r ∈ (L ++ M).map said, rf r = 0 := fun r hr => by
          rw [List.map_append] at hr
          rcases List.mem_append.1 hr with h | h
          · exact hA3 r h
          · exact hB3 r h
        have hne : (L ++ M).map said ≠ [] := by rw [List.map_append]; intro e; exact hA2 (List.append_eq_nil_iff.1 e).1
        rcases hcU with ⟨_, h1⟩ | ⟨hU, hU1, _, _⟩
        · exact absurd ⟨hne, hall⟩ h1
        · have lB := Lr.ren_len (M.map said)
          have lA := Lr.ren_len (L.map said)
          have lU := Lr.ren_len ((L ++ M).map said)
          have l11 : 11 ≤ (ren (M.map said)).length := by unfold ren; rw [List.length_append]; exact Nat.le_add_right _ _
          have zB : sB.size = (ren (M.map said)).length := by rw [hB1, S_size]
          have zA : sA.size = (ren (L.map said)).length := by rw [hA1, S_size]
          have zU : sU.size = (ren ((L ++ M).map said)).length := by rw [hU1, S_size]
          have tU : sU.data.toList = ren ((L ++ M).map said) := by rw [hU1, S_l]
          refine .inr ⟨hA, hB, hU, by omega, ?_, by omega, by omega, fun W hW ab cb hR => ?_⟩
          · have e1 : (sA ++ sB.extract 11 sB.size).data.toList = ren ((L ++ M).map said) := by
              rw [app_l, drop_l, hA1, hB1, S_l, S_l, List.map_append, ren_app]
            rw [hU1]
            exact (S_eq _ _ e1).symm
          · obtain ⟨r1, r2⟩ := rdT_ren _ hne hall
            have r3 := ldR_ren _ hne hall
            have hlen : ((L ++ M).map said).length = n + m := by rw [List.length_map, List.length_append, hn, hm]
            have h := loads_any sU (by omega) W (hWt.below hW) (hCt.below hW) (n + m) (by rw [tU, r3, rcs_len]; exact hlen)
            rw [tU, r1, r3] at h
            refine Calls.mono h ?_
            rintro e w' ⟨lb, lc, Rs, rfl, hLd, hb⟩
            exact ⟨lb, lc, rfl, hb, same_ld (by rw [List.length_append, hn, hm]) (hR.below hb) hzU (by rw [rcs_said]) w' (Below.refl _ _) lb lc Rs hLd⟩
  have hcase' : Hid _ := hcase
  clear hcase hL hM hz hAt hWt hCt hn hm hVA hVB hVU hcA hcB hcU hzU hPg hK hba hbb' hl1 hl2
  go_enter Tryz.func5, Tryz.ntmps5
  go_upto_region 8 with (first
    | (refine (Hid.out H6 |> fun _ => ?_); go_at_call 16; refine (hPb.out _ _ a6 c6 O6 H6.out Q6.out).mono ?_; rintro e w7 ⟨rfl, hb7⟩; have H7 : Hid (Below w.heap.size w w7) := H6.out.trans (hb7.mono H6.out.size); clear hb7 Q6)
    | (refine (Hid.out H5 |> fun _ => ?_); go_at_call 17; refine (hCb.out _ H5.out).mono ?_; rintro e w6 ⟨a6, c6, O6, rfl, hQ⟩; have Q6 : Hid (CpQ _ M m a6 c6 O6 w6) := hQ; have H6 : Hid (Below w.heap.size w w6) := H5.out.trans (hQ.2.2.2.2.2.2.mono H5.out.size); clear hQ)
    | (refine (Hid.out H4 |> fun _ => ?_); go_at_call 16; refine (hPa.out _ _ a4 c4 O4 H4.out Q4.out).mono ?_; rintro e w5 ⟨rfl, hb5⟩; have H5 : Hid (Below w.heap.size w w5) := H4.out.trans (hb5.mono H4.out.size); clear hb5 Q4)
    | (refine (Hid.out H3 |> fun _ => ?_); go_at_call 17; refine (hCa.out _ H3.out).mono ?_; rintro e w4 ⟨a4, c4, O4, rfl, hQ⟩; have Q4 : Hid (CpQ _ L n a4 c4 O4 w4) := hQ; have H4 : Hid (Below w.heap.size w w4) := H3.out.trans (hQ.2.2.2.2.2.2.mono H3.out.size); clear hQ)
    | (go_at_call 9; refine (num_any _ _).mono ?_; rintro e w9 ⟨rfl, rfl⟩)
    | (go_at_call 16; refine hR1.out.mono ?_; rintro e w3 ⟨rfl, hb3⟩; have H3 : Hid (Below w.heap.size w w3) := hbb.out.trans (hb3.mono hbb.out.size); clear hb3))
  obtain ⟨v1, W1, ab, cb, W2, e1, e2, hRU, hB2, a1, n1, c1, rfl⟩ := hBr.out w7 H7.out
  have H8 : Hid (Below w.heap.size w W2) := hB2
  have R8 : Hid (RRow W2 ab (L ++ M)) := hRU
  clear hRU hB2 hBr H3 H4 H5 H6 hKt hWa hWb hbb hR1 hCa hCb hPa hPb
  go_upto_region 11 with (first
    | (at_builtin; refine Lib.wpList_append_run _ rfl _ _ _ _ rfl _ _ rfl rfl _ _ e1 ?_; clear e1)
    | (at_builtin; refine Lib.wpList_append_run _ rfl _ _ _ _ rfl _ _ rfl rfl _ _ e2 ?_; clear e2)
    | (refine (Hid.out Ha |> fun _ => ?_); go_at_call 16; refine (hPu.out _ _ aa ca Oa Ha.out Qa.out).mono ?_; rintro e wb ⟨rfl, hbb⟩; have Hb : Hid (Below w.heap.size w wb) := Ha.out.trans (hbb.mono Ha.out.size); have Rb : Hid (RRow wb ab (L ++ M)) := Ra.out.below hbb; clear hbb Qa Ra)
    | (go_at_call 17; refine (hCu.out W2 ab cb R8.out).mono ?_; rintro e wa ⟨aa, ca, Oa, rfl, hQ⟩; have Qa : Hid (CpQ _ (L ++ M) (n + m) aa ca Oa wa) := hQ; have Ra : Hid (RRow wa ab (L ++ M)) := R8.out.below hQ.2.2.2.2.2.2; have Ha : Hid (Below w.heap.size w wa) := H8.out.trans (hQ.2.2.2.2.2.2.mono H8.out.size); clear hQ))
  clear hCu hPu R8 H8 H7 Ha
  rcases hcase'.out with ⟨h1, h2⟩ | ⟨rfl, rfl, rfl, h11, hsU, zA, zB, hLd⟩
  · have hH : Hid (Below w.heap.size w wb) := Hb
    clear hcase' Hb Rb
    rcases h1 with h1 | ⟨h1, h1'⟩ <;> rcases h2 with h2 | ⟨h2, h2'⟩ | ⟨h2, h2', h2''⟩
    all_goals
      go_wp2_with (go_at_call 9; refine (num_any _ _).mono ?_; rintro e w9 ⟨rfl, rfl⟩)
      go_ret
      exact ⟨rfl, hH.out⟩
  · have hLd' := hLd wb Hb.out ab cb Rb.out
    have hL : Hid (Calls Tryz.prog 10 #[.string sU] wb fun e w' => ∃ lb lc, e = .returned (.tuple #[.slice lb (n + m) lc, .int .i64 0, .int .i64 0]) ∧ Below wb.heap.size wb w' ∧ Calls Tryz.prog 18 #[.slice lb (n + m) lc, .slice ab (n + m) cb, .bool false] w' fun e w'' => e = .returned (.bool true) ∧ Below w'.heap.size w' w'') := hLd'
    obtain ⟨X, hX⟩ : ∃ X, sB.extract 11 sB.size = X := ⟨_, rfl⟩
    have hXs : X.size ≤ 3145739 := by rw [← hX, ByteArray.size_extract]; omega
    have y1 : ¬ 9223372036854775807 < sA.size + X.size := by omega
    have y2 : (11 : Int) ≤ (sB.size : Int) := by omega
    have y3 : (sB.size : Int) ≤ 3145739 := by omega
    rw [hX] at hsU
    have hsU' : sA ++ X = sU := hsU.symm
    clear hsU hLd hLd' hcase' hXs zA zB Rb
    go_wp2_with (first
      | (go_at_call 9; refine (num_any _ _).mono ?_; rintro e w9 ⟨rfl, rfl⟩)
      | (go_at_call 10; refine hL.out.mono ?_; rintro e wc ⟨lb, lc, rfl, hbc, hsm⟩; have Hc : Hid (Below w.heap.size w wc) := Hb.out.trans (hbc.mono Hb.out.size); have hS : Hid _ := hsm; clear hbc hsm))
    refine Calls.mono hS.out ?_
    rintro e wd ⟨rfl, hbd⟩
    have Hd : Hid (Below w.heap.size w wd) := Hc.out.trans (hbd.mono Hc.out.size)
    clear hbd hS
    go_wp2_with fail
    go_ret
    exact ⟨rfl, Hd.out⟩
end Rd
open Go.RowKit
theorem ldifJoin_w (a : Option Addr) (c : Nat) (L : List Lr.RX) (n : Nat) (hn : L.length = n) (b : Option Addr) (d : Nat) (M : List Lr.RX) (m : Nat) (hm : M.length = m) (w : World) (hL : Lr.RRow w a L) (hM : Lr.RRow w b M) (hz : Lr.wt (L.map Lr.said) + Lr.wt (M.map Lr.said) ≤ 1048576) (hAt : AlTab w) (hWt : WTab w) (hCt : Lr.ChgTab w) :
    Calls Tryz.prog 5 #[.slice a n c, .slice b m d] w fun e w' => e = .returned (.bool true) ∧ Below w.heap.size w w' := Rd.ldifJoin_walk a c L n hn b d M m hm w hL hM hz hAt hWt hCt
end Go.Proofs.YtfpphhbpoaobfaaGreatDoor
