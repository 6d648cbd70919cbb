import Derived.Test.YtfmhcgadgakbhaaDoorFxG
import Derived.Test.YtfmhcgadgakbhaaDoorRfAl
import Derived.Test.YtfmhcgadgakbhaaDoorFxK
namespace Go.Proofs.YtfmhcgadgakbhaaDoor
namespace Ke
open Go.RowKit
open TextMath (fold lo normal check)
open Du (PRow pV pV_len prow_at)
set_option linter.unusedVariables false
set_option linter.unusedSimpArgs false
set_option maxRecDepth 100000

theorem rparse_ty (t : List UInt8) (w : World) (ht : t.length ≤ 4194300) :
    Calls Tryd.prog 37 #[.string (S t)] w fun e w' => (∃ m : Nat, e = .returned (.tuple #[.string (S (tyC t)), .int .i64 (if tyOk t = true then 0 else 40), .int .i64 (m : Int)])) ∧ Below w.heap.size w w' := by
  refine (parseTypeR_any (S t) w (by rw [S_size]; exact ht)).mono ?_
  rintro e w' ⟨rfl, hb⟩
  rw [S_l]
  refine ⟨⟨(tyR t).2.2, ?_⟩, hb⟩
  rw [← tyR_er]
  unfold tyC tyR
  rw [S_of]
theorem rcheck_ty (v : List UInt8) (w : World) (ht : v.length ≤ 140737488355328) (hT : RowTab w) :
    Calls Tryd.prog 38 #[.string (S v)] w fun e w' => (∃ m : Nat, e = .returned (.tuple #[.int .i64 (if utf v = true then 0 else 10), .int .i64 (m : Int)])) ∧ w' = w := by
  refine (rCheck_any (S v) w (by rw [S_size]; exact ht) hT).mono ?_
  rintro e w' ⟨rfl, rfl⟩
  rw [S_l]
  exact ⟨⟨(check v).2, rfl⟩, rfl⟩
theorem rowTab_below {W W' : World} (h : RowTab W) (hb : Below W.heap.size W W') : RowTab W' := fun r c hr hc => by
  have h1 := h r c hr hc
  rw [hb.cell (World.block_lt_of_cell? W _ h1)]
  exact h1
set_option maxHeartbeats 4000000 in
/-- The reference's reason why a part is none. -/
theorem wrong_any (a : Option Addr) (c n : Nat) (ps : List PR) (w : World) (hG : RowTab w) (hn : ps.length = n) (hr : PRow w a ps) (hz : ∀ p ∈ ps, p.1.length + p.2.length ≤ 4194300) (hnb : n ≤ 140737488355328) :
    Calls Tryd.prog 24 #[.slice a n c] w fun e w' => e = .returned (.int .i64 (rerr ps : Int)) ∧ Below w.heap.size w w' := by
  have nb : (n : Int) ≤ 140737488355328 := by omega
  have n0 : (0 : Int) ≤ (n : Int) := by omega
  have hn' : Hid (ps.length = n) := hn
  have hr' : Hid (PRow w a ps) := hr
  have hz' : Hid (∀ p ∈ ps, p.1.length + p.2.length ≤ 4194300) := hz
  have hG' : Hid (RowTab w) := hG
  clear hr hz hG
  by_cases hz0 : n = 0
  · subst hz0
    have hno : Hid (rerr ps = 59) := by unfold Hid rerr; rw [if_pos hn]
    clear hn hG' hr' hz' hn'
    go_enter Tryd.func24, Tryd.ntmps24
    go_wp2_with fail
    go_ret
    exact ⟨by rw [hno.out]; rfl, Below.refl _ _⟩
  · have nz : ¬ ((n : Int) = 0) := by omega
    by_cases hz8 : 8 < n
    · have n8 : (8 : Int) < (n : Int) := by omega
      have hno : Hid (rerr ps = 58) := by unfold Hid rerr; rw [if_neg (by omega), if_pos (by omega)]
      clear hn hG' hr' hz' hn'
      go_enter Tryd.func24, Tryd.ntmps24
      go_wp2_with fail
      go_ret
      exact ⟨by rw [hno.out]; rfl, Below.refl _ _⟩
    · have n8 : ¬ (8 : Int) < (n : Int) := by omega
      have hlo : Hid (1 ≤ n ∧ n ≤ 8) := ⟨by omega, by omega⟩
      clear hn hnb hz0 hz8
      go_enter Tryd.func24, Tryd.ntmps24
      go_wp2_with fail
      go_loopw [3, 4] (fun tv iv wr => ∃ (k : Nat) (ta : Option Addr) (tc : Nat), k ≤ n ∧ iv = .int .i64 (k : Int) ∧ tv = .slice ta k tc ∧ Hid ((∀ j, j < k → OkI ps j) ∧ OwnS wr w.heap.size (.slice ta k tc) ((ps.take k).map fun p => tyC p.1) ∧ Below w.heap.size w wr)) (fun _ iv _ => n - (intOf iv).toNat)
      case atStart => exact ⟨0, none, 0, Nat.zero_le _, rfl, rfl, fun j hj => by omega, ownS_nil _ _, Below.refl _ _⟩
      case round =>
        obtain ⟨k, ta, tc, hk, rfl, rfl, hR⟩ := hrel
        have k0 : (0 : Int) ≤ (k : Int) := Int.natCast_nonneg _
        by_cases hlt : k < n
        · have k1 : (k : Int) < (n : Int) := Int.ofNat_lt.2 hlt
          have hkP : k < ps.length := by rw [hn'.out]; exact hlt
          obtain ⟨pb, po, rfl, c3, c4⟩ := prow_at (hr'.out.below pV_len hR.out.2.2) k hkP
          have hr3 : Hid (∀ W, Below w.heap.size w W → W.cell? ⟨pb, po + k * 2 + 1, none⟩ = some (.string (S ps[k].2))) := fun W hW => by
            obtain ⟨pb', po', e, _, h⟩ := prow_at (hr'.out.below pV_len hW) k hkP
            injection e with e
            injection e with e1 e2
            subst e1 e2
            exact h
          have hzk := hz'.out _ (List.getElem_mem hkP)
          have hIk : Hid (tyOk ps[k].1 = true → tyC ps[k].1 ∉ (ps.take k).map (fun p => tyC p.1) → utf ps[k].2 = true → OkI ps k) := fun h1 h2 h3 => ⟨hkP, h1, h2, h3⟩
          have hcer59 : Hid (¬ tyOk ps[k].1 = true → rerr ps = 59) := fun h => rer_ty (by rw [hn'.out]; exact hlo.out.1) (by rw [hn'.out]; exact hlo.out.2) k hkP hR.out.1 h
          have hcer57 : Hid (tyOk ps[k].1 = true → tyC ps[k].1 ∈ (ps.take k).map (fun p => tyC p.1) → rerr ps = 57) := fun h h' => rer_in (by rw [hn'.out]; exact hlo.out.1) (by rw [hn'.out]; exact hlo.out.2) k hkP hR.out.1 h h'
          have hcer51 : Hid (tyOk ps[k].1 = true → tyC ps[k].1 ∉ (ps.take k).map (fun p => tyC p.1) → ¬ utf ps[k].2 = true → rerr ps = 51) := fun h h' h'' => rer_ut (by rw [hn'.out]; exact hlo.out.1) (by rw [hn'.out]; exact hlo.out.2) k hkP hR.out.1 h h' h''
          have hsn : Hid ((ps.take (k + 1)).map (fun p => tyC p.1) = (ps.take k).map (fun p => tyC p.1) ++ [tyC ps[k].1]) := by unfold Hid; rw [List.take_succ_eq_append_getElem hkP, List.map_append]; rfl
          generalize ps[k] = p at *
          obtain ⟨t, v⟩ := p
          dsimp only at c3 c4 hzk hIk hsn hcer59 hcer57 hcer51 hr3
          generalize hT : (ps.take k).map (fun p => tyC p.1) = T at *
          have hTl : Hid (T.length = k) := by unfold Hid; rw [← hT, List.length_map, List.length_take]; omega
          have hP : Hid (Calls Tryd.prog 37 #[.string (S t)] wr fun e w' => (∃ m : Nat, e = .returned (.tuple #[.string (S (tyC t)), .int .i64 (if tyOk t = true then 0 else 40), .int .i64 (m : Int)])) ∧ Below wr.heap.size wr w') := rparse_ty t wr (by omega)
          have hK : Hid (∀ W, RowTab W → Calls Tryd.prog 38 #[.string (S v)] W fun e w' => (∃ m : Nat, e = .returned (.tuple #[.int .i64 (if utf v = true then 0 else 10), .int .i64 (m : Int)])) ∧ w' = W) := fun W h => rcheck_ty v W (by omega) h
          have hlt' : Hid (k < n) := hlt
          have hk8 : Hid (k ≤ 8) := by have := hlo.out; unfold Hid; omega
          obtain ⟨st, hst⟩ : ∃ st, S t = st := ⟨_, rfl⟩
          obtain ⟨sv', hsv⟩ : ∃ sv', S v = sv' := ⟨_, rfl⟩
          rw [hst] at c3 hP
          rw [hsv] at c4 hK hr3
          clear hst hsv hzk hkP hlt hk c4
          go_wp2_with fail
          refine hP.out.mono ?_
          rintro e W2 ⟨⟨m2, rfl⟩, hb2⟩
          have hBw : Hid (Below w.heap.size w W2) := hR.out.2.2.trans (hb2.mono hR.out.2.2.size)
          have hO2 : Hid (OwnS W2 w.heap.size (.slice ta k tc) T) := ownS_below hR.out.2.1 hb2
          have hR1 : Hid (∀ j, j < k → OkI ps j) := hR.out.1
          clear hb2 hP hR c3
          by_cases hty : tyOk t = true
          · rw [if_pos hty]
            have hrow : Hid (Row W2 ta T) := (ownS_row hO2.out).1
            obtain ⟨sc, hsc⟩ : ∃ sc, S (tyC t) = sc := ⟨_, rfl⟩
            rw [hsc]
            have hcell : Hid (∀ j, j < k → ∃ (g o : Nat) (s : ByteArray), ta = some ⟨g, o, none⟩ ∧ W2.cell? ⟨g, o + j, none⟩ = some (.string s) ∧ ((s.toList == sc.toList) = true → tyC t ∈ T) ∧ ((s.toList == sc.toList) = false → ¬ T[j]? = some (tyC t))) := fun j hj => by
              have hjT : j < T.length := by rw [hTl.out]; exact hj
              obtain ⟨g, o, e, h⟩ := hrow.out j hjT
              refine ⟨g, o, S T[j], e, h, fun q => ?_, fun q => ?_⟩
              · rw [← hsc, Lib.toList_data, Lib.toList_data, S_l, S_l, beq_iff_eq] at q
                rw [← q]
                exact List.getElem_mem hjT
              · rw [← hsc, Lib.toList_data, Lib.toList_data, S_l, S_l, beq_eq_false_iff_ne] at q
                rw [List.getElem?_eq_getElem hjT]
                intro e
                injection e with e
                exact q e
            have hC2 : Hid (tyC t ∈ T → rerr ps = 57) := fun h => hcer57.out hty h
            clear hcer57 hcer59 hrow
            go_wp2_with fail
            go_loop [8] (fun jv => ∃ j : Nat, j ≤ k ∧ jv = .int .i64 (j : Int) ∧ Hid (∀ i, i < j → ¬ T[i]? = some (tyC t))) (fun jv => k - (intOf jv).toNat)
            case atStart => exact ⟨0, Nat.zero_le _, rfl, fun i hi => by omega⟩
            case round =>
              obtain ⟨j, hj, rfl, hno⟩ := hrel
              have j0 : (0 : Int) ≤ (j : Int) := Int.natCast_nonneg _
              by_cases hjl : j < k
              · have j1 : (j : Int) < (k : Int) := Int.ofNat_lt.2 hjl
                obtain ⟨g, o, s, rfl, c5, q1, q2⟩ := hcell.out j hjl
                by_cases hq : (s.toList == sc.toList) = true
                · have hno' : Hid (rerr ps = 57) := hC2.out (q1 hq)
                  clear q1 q2 hcell hno hcer51 hC2 hIk hK hR1
                  go_wp2_with fail
                  go_ret
                  exact ⟨by rw [hno'.out]; rfl, hBw.out⟩
                · rw [Bool.not_eq_true] at hq
                  have hno' : Hid (∀ i, i < j + 1 → ¬ T[i]? = some (tyC t)) := fun i hi => by
                    by_cases e : i = j
                    · rw [e]; exact q2 hq
                    · exact hno.out i (by omega)
                  clear q1 q2 hcell hno hcer51 hC2 hIk hK hR1
                  go_wp2_with fail
                  go_round
                  case rel => exact ⟨j + 1, hjl, by go_num, hno'⟩
                  case measure => simp [intOf]; omega
              · have hje : j = k := by omega
                subst hje
                have hin : Hid (tyC t ∉ T) := fun h => by
                  obtain ⟨i, hi, e⟩ := List.getElem_of_mem h
                  exact hno.out i (by rw [← hTl.out]; exact hi) (by rw [List.getElem?_eq_getElem hi, e])
                have i1 : ¬ (j : Int) < (j : Int) := by omega
                obtain ⟨v3, W3, e3', o3, b3⟩ := append_row (W2.alloc (.cells #[.string sc] 9)) w.heap.size (.slice ta j tc) T [tyC t] (some ⟨W2.heap.size, 0, none⟩) 1 1 (ownS_below hO2.out ((Below.refl _ _).alloc (Nat.le_refl _) _)) (by rw [← hsc]; exact row_one _ _) rfl (by have := hBw.out.size; simp; omega) (by have := hTl.out; have := hk8.out; simp; omega)
                obtain ⟨ta', tc', rfl, _⟩ : ∃ ta' tc', v3 = .slice ta' (j + 1) tc' ∧ True := by
                  have hl3 : (T ++ [tyC t]).length = j + 1 := by rw [List.length_append, hTl.out]; rfl
                  rcases ownS_formD o3 with ⟨_, h0⟩ | ⟨g, cap, e, _⟩
                  · rw [h0] at hl3; simp at hl3
                  · exact ⟨_, _, by rw [e, hl3], trivial⟩
                have hB3 : Hid (Below w.heap.size w W3) := (hBw.out.alloc hBw.out.size _).trans b3
                have c6 := hr3.out W3 hB3.out
                have hK3 : Hid (Calls Tryd.prog 38 #[.string sv'] W3 fun e w' => (∃ m : Nat, e = .returned (.tuple #[.int .i64 (if utf v = true then 0 else 10), .int .i64 (m : Int)])) ∧ w' = W3) := hK.out W3 (rowTab_below hG'.out hB3.out)
                by_cases hut : utf v = true
                · rw [if_pos hut] at hK3
                  have hfin : Hid ((∀ i, i < j + 1 → OkI ps i) ∧ OwnS W3 w.heap.size (.slice ta' (j + 1) tc') ((ps.take (j + 1)).map fun p => tyC p.1) ∧ Below w.heap.size w W3) := by
                    refine ⟨fun i hi => ?_, by rw [hsn.out]; exact o3, hB3.out⟩
                    by_cases e : i = j
                    · rw [e]; exact hIk.out hty hin.out hut
                    · exact hR1.out i (by omega)
                  clear o3 b3 hIk hR1 hO2 hsn hTl hT hty hin hut hBw hcell hno hcer51 hC2 hK hB3 hr3
                  go_wp2_with (first
                    | (go_at_call 38; refine hK3.out.mono ?_; rintro e w' ⟨⟨m3, rfl⟩, rfl⟩)
                    | (at_builtin; refine Lib.wpList_append_run _ rfl _ _ _ _ rfl _ _ rfl rfl _ _ e3' ?_; clear e3'))
                  go_roundw
                  case rel => exact ⟨j + 1, ta', tc', hlt'.out, by go_num, rfl, hfin⟩
                  case measure => have := hlt'.out; simp [intOf]; omega
                · rw [if_neg hut] at hK3
                  have hno' : Hid (rerr ps = 51) := hcer51.out hty hin.out hut
                  clear o3 b3 hIk hR1 hO2 hsn hTl hT hty hin hut hBw hcell hno hcer51 hC2 hK hr3
                  go_wp2_with (first
                    | (go_at_call 38; refine hK3.out.mono ?_; rintro e w' ⟨⟨m3, rfl⟩, rfl⟩)
                    | (at_builtin; refine Lib.wpList_append_run _ rfl _ _ _ _ rfl _ _ rfl rfl _ _ e3' ?_; clear e3'))
                  go_ret
                  exact ⟨by rw [hno'.out]; rfl, hB3.out⟩
          · rw [if_neg hty]
            have hno : Hid (rerr ps = 59) := hcer59.out hty
            clear hIk hK hty hR1 hO2 hsn hTl hT hcer51 hcer57 hcer59 hr3
            go_wp2_with fail
            go_ret
            exact ⟨by rw [hno.out]; rfl, hBw.out⟩
        · have e : n = k := by omega
          subst e
          have i1 : ¬ (n : Int) < (n : Int) := by omega
          have hfin : Hid (rerr ps = 0 ∧ Below w.heap.size w wr) := ⟨rer_ok ⟨by rw [hn'.out]; exact hlo.out.1, by rw [hn'.out]; exact hlo.out.2, fun i hi => hR.out.1 i (by rw [← hn'.out]; exact hi)⟩, hR.out.2.2⟩
          clear hR hk hlt
          go_wp2_with fail
          go_ret
          exact ⟨by rw [hfin.out.1]; rfl, hfin.out.2⟩
end Ke
end Go.Proofs.YtfmhcgadgakbhaaDoor
