import Derived.Test.YtfmhcgadgakbhaaGreatDoorFxG
import Derived.Test.YtfmhcgadgakbhaaGreatDoorFxGb
import Derived.Test.YtfmhcgadgakbhaaGreatDoorFxK
import Derived.Test.YtfmhcgadgakbhaaGreatDoorFxL
namespace Go.Proofs.YtfmhcgadgakbhaaGreatDoor
namespace Ke
open Go.RowKit
open TextMath (fold lo normal check)
open Du (PRow pV pV_len prow_at)
set_option linter.unusedVariables false
set_option linter.unusedSimpArgs false
set_option maxRecDepth 100000

theorem rparse_ty (t : List UInt8) (w : World) (ht : t.length ≤ 4194300) :
    Calls Tryz.prog 16 #[.string (S t)] w fun e w' => (∃ m : Nat, e = .returned (.tuple #[.string (S (tyC t)), .int .i64 (if tyOk t = true then 0 else 40), .int .i64 (m : Int)])) ∧ Below w.heap.size w w' := by
  refine (parseTypeR_any (S t) w (by rw [S_size]; exact ht)).mono ?_
  rintro e w' ⟨rfl, hb⟩
  rw [S_l]
  refine ⟨⟨(tyR t).2.2, ?_⟩, hb⟩
  rw [← tyR_er]
  unfold tyC tyR
  rw [S_of]
theorem rcheck_ty (v : List UInt8) (w : World) (ht : v.length ≤ 140737488355328) (hT : RowTab w) :
    Calls Tryz.prog 30 #[.string (S v)] w fun e w' => (∃ m : Nat, e = .returned (.tuple #[.int .i64 (if utf v = true then 0 else 10), .int .i64 (m : Int)])) ∧ w' = w := by
  refine (rCheck_any (S v) w (by rw [S_size]; exact ht) hT).mono ?_
  rintro e w' ⟨rfl, rfl⟩
  rw [S_l]
  exact ⟨⟨(check v).2, rfl⟩, rfl⟩
theorem rowTab_below {W W' : World} (h : RowTab W) (hb : Below W.heap.size W W') : RowTab W' := fun r c hr hc => by
  have h1 := h r c hr hc
  rw [hb.cell (World.block_lt_of_cell? W _ h1)]
  exact h1
set_option maxHeartbeats 4000000 in
/-- The reference's reason why a part is none. -/
theorem wrong_any (a : Option Addr) (c n : Nat) (ps : List PR) (w : World) (hG : RowTab w) (hn : ps.length = n) (hr : PRow w a ps) (hz : ∀ p ∈ ps, p.1.length + p.2.length ≤ 4194300) (hnb : n ≤ 140737488355328) :
    Calls Tryz.prog 15 #[.slice a n c] w fun e w' => e = .returned (.int .i64 (rerr ps : Int)) ∧ Below w.heap.size w w' := by
  have nb : (n : Int) ≤ 140737488355328 := by omega
  have n0 : (0 : Int) ≤ (n : Int) := by omega
  have hn' : Hid (ps.length = n) := hn
  have hr' : Hid (PRow w a ps) := hr
  have hz' : Hid (∀ p ∈ ps, p.1.length + p.2.length ≤ 4194300) := hz
  have hG' : Hid (RowTab w) := hG
  clear hr hz hG
  by_cases hz0 : n = 0
  · subst hz0
    have hno : Hid (rerr ps = 59) := by unfold Hid rerr; rw [if_pos hn]
    clear hn hG' hr' hz' hn'
    go_enter Tryz.func15, Tryz.ntmps15
    go_wp2_with fail
    go_ret
    exact ⟨by rw [hno.out]; rfl, Below.refl _ _⟩
  · have nz : ¬ ((n : Int) = 0) := by omega
    by_cases hz8 : 8 < n
    · have n8 : (8 : Int) < (n : Int) := by omega
      have hno : Hid (rerr ps = 58) := by unfold Hid rerr; rw [if_neg (by omega), if_pos (by omega)]
      clear hn hG' hr' hz' hn'
      go_enter Tryz.func15, Tryz.ntmps15
      go_wp2_with fail
      go_ret
      exact ⟨by rw [hno.out]; rfl, Below.refl _ _⟩
    · have n8 : ¬ (8 : Int) < (n : Int) := by omega
      have hlo : Hid (1 ≤ n ∧ n ≤ 8) := ⟨by omega, by omega⟩
      clear hn hnb hz0 hz8
      go_enter Tryz.func15, Tryz.ntmps15
      go_wp2_with fail
      go_loopw [3, 4] (fun tv iv wr => ∃ (k : Nat) (ta : Option Addr) (tc : Nat), k ≤ n ∧ iv = .int .i64 (k : Int) ∧ tv = .slice ta k tc ∧ Hid ((∀ j, j < k → OkI ps j) ∧ OwnS wr w.heap.size (.slice ta k tc) ((ps.take k).map fun p => tyC p.1) ∧ Below w.heap.size w wr)) (fun _ iv _ => n - (intOf iv).toNat)
      case atStart => exact ⟨0, none, 0, Nat.zero_le _, rfl, rfl, fun j hj => by omega, ownS_nil _ _, Below.refl _ _⟩
      case round =>
        obtain ⟨k, ta, tc, hk, rfl, rfl, hR⟩ := hrel
        have k0 : (0 : Int) ≤ (k : Int) := Int.natCast_nonneg _
        by_cases hlt : k < n
        · have k1 : (k : Int) < (n : Int) := Int.ofNat_lt.2 hlt
          have hkP : k < ps.length := by rw [hn'.out]; exact hlt
          obtain ⟨pb, po, rfl, c3, c4⟩ := prow_at (hr'.out.below pV_len hR.out.2.2) k hkP
          have hr3 : Hid (∀ W, Below w.heap.size w W → W.cell? ⟨pb, po + k * 2 + 1, none⟩ = some (.string (S ps[k].2))) := fun W hW => by
            obtain ⟨pb', po', e, _, h⟩ := prow_at (hr'.out.below pV_len hW) k hkP
            injection e with e
            injection e with e1 e2
            subst e1 e2
            exact h
          have hzk := hz'.out _ (List.getElem_mem hkP)
          have hIk : Hid (tyOk ps[k].1 = true → tyC ps[k].1 ∉ (ps.take k).map (fun p => tyC p.1) → utf ps[k].2 = true → OkI ps k) := fun h1 h2 h3 => ⟨hkP, h1, h2, h3⟩
          have hcer59 : Hid (¬ tyOk ps[k].1 = true → rerr ps = 59) := fun h => rer_ty (by rw [hn'.out]; exact hlo.out.1) (by rw [hn'.out]; exact hlo.out.2) k hkP hR.out.1 h
          have hcer57 : Hid (tyOk ps[k].1 = true → tyC ps[k].1 ∈ (ps.take k).map (fun p => tyC p.1) → rerr ps = 57) := fun h h' => rer_in (by rw [hn'.out]; exact hlo.out.1) (by rw [hn'.out]; exact hlo.out.2) k hkP hR.out.1 h h'
          have hcer51 : Hid (tyOk ps[k].1 = true → tyC ps[k].1 ∉ (ps.take k).map (fun p => tyC p.1) → ¬ utf ps[k].2 = true → rerr ps = 51) := fun h h' h'' => rer_ut (by rw [hn'.out]; exact hlo.out.1) (by rw [hn'.out]; exact hlo.out.2) k hkP hR.out.1 h h' h''
          have hsn : Hid ((ps.take (k + 1)).map (fun p => tyC p.1) = (ps.take k).map (fun p => tyC p.1) ++ [tyC ps[k].1]) := by unfold Hid; rw [List.take_succ_eq_append_getElem hkP, List.map_append]; rfl
          generalize ps[k] = p at *
          obtain ⟨t, v⟩ := p
          dsimp only at c3 c4 hzk hIk hsn hcer59 hcer57 hcer51 hr3
          generalize hT : (ps.take k).map (fun p => tyC p.1) = T at *
          have hTl : Hid (T.length = k) := by unfold Hid; rw [← hT, List.length_map, List.length_take]; omega
          have hP : Hid (Calls Tryz.prog 16 #[.string (S t)] wr fun e w' => (∃ m : Nat, e = .returned (.tuple #[.string (S (tyC t)), .int .i64 (if tyOk t = true then 0 else 40), .int .i64 (m : Int)])) ∧ Below wr.heap.size wr w') := rparse_ty t wr (by omega)
          have hK : Hid (∀ W, RowTab W → Calls Tryz.prog 30 #[.string (S v)] W fun e w' => (∃ m : Nat, e = .returned (.tuple #[.int .i64 (if utf v = true then 0 else 10), .int .i64 (m : Int)])) ∧ w' = W) := fun W h => rcheck_ty v W (by omega) h
          have hlt' : Hid (k < n) := hlt
          have hk8 : Hid (k ≤ 8) := by have := hlo.out; unfold Hid; omega
          obtain ⟨st, hst⟩ : ∃ st, S t = st := ⟨_, rfl⟩
          obtain ⟨sv', hsv⟩ : ∃ sv', S v = sv' := ⟨_, rfl⟩
          rw [hst] at c3 hP
          rw [hsv] at c4 hK hr3
          clear hst hsv hzk hkP hlt hk c4
          go_wp2_with fail
          refine hP.out.mono ?_
          rintro e W2 ⟨⟨m2, rfl⟩, hb2⟩
          have hBw : Hid (Below w.heap.size w W2) := hR.out.2.2.trans (hb2.mono hR.out.2.2.size)
          have hO2 : Hid (OwnS W2 w.heap.size (.slice ta k tc) T) := ownS_below hR.out.2.1 hb2
          have hR1 : Hid (∀ j, j < k → OkI ps j) := hR.out.1
          clear hb2 hP hR c3
          by_cases hty : tyOk t = true
          · rw [if_pos hty]
            have hrow : Hid (Row W2 ta T) := (ownS_row hO2.out).1
            obtain ⟨sc, hsc⟩ : ∃ sc, S (tyC t) = sc := ⟨_, rfl⟩
            rw [hsc]
            have hcell : Hid (∀ j, j < k → ∃ (g o : Nat) (s : ByteArray), ta = some ⟨g, o, none⟩ ∧ W2.cell? ⟨g, o + j, none⟩ = some (.string s) ∧ ((s.toList == sc.toList) = true → tyC t ∈ T) ∧ ((s.toList == sc.toList) = false → ¬ T[j]? = some (tyC t))) := fun j hj => by
              have hjT : j < T.length := by rw [hTl.out]; exact hj
              obtain ⟨g, o, e, h⟩ := hrow.out j hjT
              refine ⟨g, o, S T[j], e, h, fun q => ?_, fun q => ?_⟩
              · rw [← hsc, Lib.toList_data, Lib.toList_data, S_l, S_l, beq_iff_eq] at q
                rw [← q]
                exact List.getElem_mem hjT
              · rw [← hsc, Lib.toList_data, Lib.toList_data, S_l, S_l, beq_eq_false_iff_ne] at q
                rw [List.getElem?_eq_getElem hjT]
                intro e
                injection e with e
                exact q e
            have hC2 : Hid (tyC t ∈ T → rerr ps = 57) := fun h => hcer57.out hty h
            clear hcer57 hcer59 hrow
            go_wp2_with fail
            go_loop [8] (fun jv => ∃ j : Nat, j ≤ k ∧ jv = .int .i64 (j : Int) ∧ Hid (∀ i, i < j → ¬ T[i]? = some (tyC t))) (fun jv => k - (intOf jv).toNat)
            case atStart => exact ⟨0, Nat.zero_le _, rfl, fun i hi => by omega⟩
            case round =>
              obtain ⟨j, hj, rfl, hno⟩ := hrel
              have j0 : (0 : Int) ≤ (j : Int) := Int.natCast_nonneg _
              by_cases hjl : j < k
              · have j1 : (j : Int) < (k : Int) := Int.ofNat_lt.2 hjl
                obtain ⟨g, o, s, rfl, c5, q1, q2⟩ := hcell.out j hjl
                by_cases hq : (s.toList == sc.toList) = true
                · have hno' : Hid (rerr ps = 57) := hC2.out (q1 hq)
                  clear q1 q2 hcell hno hcer51 hC2 hIk hK hR1
                  go_wp2_with fail
                  go_ret
                  exact ⟨by rw [hno'.out]; rfl, hBw.out⟩
                · rw [Bool.not_eq_true] at hq
                  have hno' : Hid (∀ i, i < j + 1 → ¬ T[i]? = some (tyC t)) := fun i hi => by
                    by_cases e : i = j
                    · rw [e]; exact q2 hq
                    · exact hno.out i (by omega)
                  clear q1 q2 hcell hno hcer51 hC2 hIk hK hR1
                  go_wp2_with fail
                  go_round
                  case rel => exact ⟨j + 1, hjl, by go_num, hno'⟩
                  case measure => simp [intOf]; omega
              · have hje : j = k := by omega
                subst hje
                have hin : Hid (tyC t ∉ T) := fun h => by
                  obtain ⟨i, hi, e⟩ := List.getElem_of_mem h
                  exact hno.out i (by rw [← hTl.out]; exact hi) (by rw [List.getElem?_eq_getElem hi, e])
                have i1 : ¬ (j : Int) < (j : Int) := by omega
                obtain ⟨v3, W3, e3', o3, b3⟩ := append_row (W2.alloc (.cells #[.string sc] 9)) w.heap.size (.slice ta j tc) T [tyC t] (some ⟨W2.heap.size, 0, none⟩) 1 1 (ownS_below hO2.out ((Below.refl _ _).alloc (Nat.le_refl _) _)) (by rw [← hsc]; exact row_one _ _) rfl (by have := hBw.out.size; simp; omega) (by have := hTl.out; have := hk8.out; simp; omega)
                obtain ⟨ta', tc', rfl, _⟩ : ∃ ta' tc', v3 = .slice ta' (j + 1) tc' ∧ True := by
                  have hl3 : (T ++ [tyC t]).length = j + 1 := by rw [List.length_append, hTl.out]; rfl
                  rcases ownS_formD o3 with ⟨_, h0⟩ | ⟨g, cap, e, _⟩
                  · rw [h0] at hl3; simp at hl3
                  · exact ⟨_, _, by rw [e, hl3], trivial⟩
                have hB3 : Hid (Below w.heap.size w W3) := (hBw.out.alloc hBw.out.size _).trans b3
                have c6 := hr3.out W3 hB3.out
                have hK3 : Hid (Calls Tryz.prog 30 #[.string sv'] W3 fun e w' => (∃ m : Nat, e = .returned (.tuple #[.int .i64 (if utf v = true then 0 else 10), .int .i64 (m : Int)])) ∧ w' = W3) := hK.out W3 (rowTab_below hG'.out hB3.out)
                by_cases hut : utf v = true
                · rw [if_pos hut] at hK3
                  have hfin : Hid ((∀ i, i < j + 1 → OkI ps i) ∧ OwnS W3 w.heap.size (.slice ta' (j + 1) tc') ((ps.take (j + 1)).map fun p => tyC p.1) ∧ Below w.heap.size w W3) := by
                    refine ⟨fun i hi => ?_, by rw [hsn.out]; exact o3, hB3.out⟩
                    by_cases e : i = j
                    · rw [e]; exact hIk.out hty hin.out hut
                    · exact hR1.out i (by omega)
                  clear o3 b3 hIk hR1 hO2 hsn hTl hT hty hin hut hBw hcell hno hcer51 hC2 hK hB3 hr3
                  go_wp2_with (first
                    | (go_at_call 30; refine hK3.out.mono ?_; rintro e w' ⟨⟨m3, rfl⟩, rfl⟩)
                    | (at_builtin; refine Lib.wpList_append_run _ rfl _ _ _ _ rfl _ _ rfl rfl _ _ e3' ?_; clear e3'))
                  go_roundw
                  case rel => exact ⟨j + 1, ta', tc', hlt'.out, by go_num, rfl, hfin⟩
                  case measure => have := hlt'.out; simp [intOf]; omega
                · rw [if_neg hut] at hK3
                  have hno' : Hid (rerr ps = 51) := hcer51.out hty hin.out hut
                  clear o3 b3 hIk hR1 hO2 hsn hTl hT hty hin hut hBw hcell hno hcer51 hC2 hK hr3
                  go_wp2_with (first
                    | (go_at_call 30; refine hK3.out.mono ?_; rintro e w' ⟨⟨m3, rfl⟩, rfl⟩)
                    | (at_builtin; refine Lib.wpList_append_run _ rfl _ _ _ _ rfl _ _ rfl rfl _ _ e3' ?_; clear e3'))
                  go_ret
                  exact ⟨by rw [hno'.out]; rfl, hB3.out⟩
          · rw [if_neg hty]
            have hno : Hid (rerr ps = 59) := hcer59.out hty
            clear hIk hK hty hR1 hO2 hsn hTl hT hcer51 hcer57 hcer59 hr3
            go_wp2_with fail
            go_ret
            exact ⟨by rw [hno.out]; rfl, hBw.out⟩
        · have e : n = k := by omega
          subst e
          have i1 : ¬ (n : Int) < (n : Int) := by omega
          have hfin : Hid (rerr ps = 0 ∧ Below w.heap.size w wr) := ⟨rer_ok ⟨by rw [hn'.out]; exact hlo.out.1, by rw [hn'.out]; exact hlo.out.2, fun i hi => hR.out.1 i (by rw [← hn'.out]; exact hi)⟩, hR.out.2.2⟩
          clear hR hk hlt
          go_wp2_with fail
          go_ret
          exact ⟨by rw [hfin.out.1]; rfl, hfin.out.2⟩
end Ke
end Go.Proofs.YtfmhcgadgakbhaaGreatDoor

namespace Go.Proofs.YtfmhcgadgakbhaaGreatDoor
namespace Ke
open Go.RowKit
open TextMath (fold lo normal check)
open Du (PRow DRow PX sd sd_len drow_at pV pV_len prow_at)
set_option linter.unusedVariables false
set_option linter.unusedSimpArgs false
set_option maxRecDepth 100000

theorem sdAt (L : List PX) (k : Nat) (h : k < L.length) : (sd L)[k]'(by rw [sd_len]; exact h) = L[k].2.2 := by simp [sd]
/-- The first part that is none. -/
def Fs (D : List (List PR)) (k : Nat) : Prop := ∃ h : k < D.length, (∀ j (h' : j < k), cer (D[j]'(by omega)) (j : Int) = 0) ∧ cer D[k] (k : Int) ≠ 0
/-- No part is wrong. -/
def Az (D : List (List PR)) : Prop := ∀ j (h : j < D.length), cer D[j] (j : Int) = 0
theorem fs_one {D : List (List PR)} {k m : Nat} (h : Fs D k) (h' : Fs D m) : k = m := by
  obtain ⟨hk, h1, h2⟩ := h
  obtain ⟨hm, h3, h4⟩ := h'
  rcases Nat.lt_trichotomy k m with q | q | q
  · exact absurd (h3 k q) h2
  · exact q
  · exact absurd (h1 m q) h4
theorem fs_az {D : List (List PR)} {k : Nat} (h : Fs D k) (h' : Az D) : False := by
  obtain ⟨hk, _, h2⟩ := h
  exact h2 (h' k hk)
/-- What the reference's name answers. -/
def NmF (w : World) (D : List (List PR)) (e : Ending) (w' : World) : Prop :=
  Below w.heap.size w w' ∧ ((Az D ∧ e = .returned (.tuple #[.int .i64 0, .int .i64 0])) ∨ (∃ k, ∃ h : k < D.length, Fs D k ∧ e = .returned (.tuple #[.int .i64 (cer D[k] (k : Int) : Int), .int .i64 (k : Int)])))
set_option maxHeartbeats 4000000 in
theorem name_any (sa : Option Addr) (sc n : Nat) (L : List PX) (w : World) (hG : RowTab w) (hn : L.length = n) (hr : DRow w sa L) (hz : ∀ r ∈ L, ∀ p ∈ r.2.2, p.1.length + p.2.length ≤ 4194300) (hzl : ∀ r ∈ L, r.2.2.length ≤ 1073741824) (hnb : n ≤ 1073741824) :
    Calls Tryz.prog 21 #[.slice sa n sc] w fun e w' => NmF w (sd L) e w' := by
  have nb : (n : Int) ≤ 1073741824 := by omega
  have hn' : Hid (L.length = n) := hn
  have hr' : Hid (DRow w sa L) := hr
  have hG' : Hid (RowTab w) := hG
  have hz' : Hid ((∀ r ∈ L, ∀ p ∈ r.2.2, p.1.length + p.2.length ≤ 4194300) ∧ ∀ r ∈ L, r.2.2.length ≤ 1073741824) := ⟨hz, hzl⟩
  clear hG hn hr hz hzl hnb
  go_enter Tryz.func21, Tryz.ntmps21
  go_wp2_with fail
  go_loopw [4] (fun iv wr => ∃ k : Nat, k ≤ n ∧ iv = .int .i64 (k : Int) ∧ Hid ((∀ j (h : j < L.length), j < k → cer L[j].2.2 (j : Int) = 0) ∧ Below w.heap.size w wr)) (fun iv _ => n - (intOf iv).toNat)
  case atStart => exact ⟨0, Nat.zero_le _, rfl, fun j _ hj => by omega, Below.refl _ _⟩
  case round =>
    obtain ⟨k, hk, rfl, hR⟩ := hrel
    have k0 : (0 : Int) ≤ (k : Int) := Int.natCast_nonneg _
    by_cases hlt : k < n
    · have k1 : (k : Int) < (n : Int) := Int.ofNat_lt.2 hlt
      have hkL : k < L.length := by rw [hn'.out]; exact hlt
      have hbad : Hid (cer L[k].2.2 (k : Int) ≠ 0 → ∃ h : k < (sd L).length, Fs (sd L) k ∧ cer (sd L)[k] (k : Int) = cer L[k].2.2 (k : Int)) := fun h => by
        have hk' : k < (sd L).length := by rw [sd_len]; exact hkL
        have e : (sd L)[k] = L[k].2.2 := sdAt L k hkL
        refine ⟨hk', ⟨hk', fun j hj => ?_, by rw [e]; exact h⟩, by rw [e]⟩
        rw [sdAt L j (by omega)]
        exact hR.out.1 j (by omega) hj
      have hsn : Hid (cer L[k].2.2 (k : Int) = 0 → ∀ j (h : j < L.length), j < k + 1 → cer L[j].2.2 (j : Int) = 0) := fun h j hj hjk => by
        by_cases e : j = k
        · subst e; exact h
        · exact hR.out.1 j hj (by omega)
      have hBw : Hid (Below w.heap.size w wr) := hR.out.2
      by_cases h64 : k = 64
      · subst h64
        have hc : cer L[64].2.2 ((64 : Nat) : Int) = 58 := by unfold cer; rw [if_pos (by decide)]
        have hfin : Hid (NmF w (sd L) (.returned (.tuple #[.int .i64 58, .int .i64 64])) wr) := by
          obtain ⟨q1, q2, q3⟩ := hbad.out (by rw [hc]; decide)
          exact ⟨hBw.out, Or.inr ⟨64, q1, q2, by rw [q3, hc]; rfl⟩⟩
        clear hc hbad hsn hR hk hlt hkL
        go_wp2_with fail
        go_ret2
        exact hfin.out
      · have k64 : ((k : Int) == 64) = false := by rw [beq_eq_false_iff_ne]; omega
        have hRw := hr'.out.below hR.out.2
        obtain ⟨b, off, rfl, c1⟩ := drow_at hRw k hkL
        have hT : Hid (Calls Tryz.prog 15 #[.slice L[k].1 L[k].2.2.length L[k].2.1] wr fun e w' => e = .returned (.int .i64 (rerr L[k].2.2 : Int)) ∧ Below wr.heap.size wr w') := wrong_any _ _ _ _ wr (rowTab_below hG'.out hBw.out) rfl (hRw.2 _ (List.getElem_mem hkL)).1 (hz'.out.1 _ (List.getElem_mem hkL)) (by have := hz'.out.2 _ (List.getElem_mem hkL); omega)
        have hce : Hid (k < 64 → cer L[k].2.2 (k : Int) = rerr L[k].2.2) := fun h => by unfold cer; rw [if_neg (by omega)]
        have hce' : Hid (64 ≤ k → False) := fun h => by
          have h2 := hR.out.1 64 (by omega) (by omega)
          unfold cer at h2
          rw [if_pos (by decide)] at h2
          exact absurd h2 (by decide)
        have hlt' : Hid (k < n) := hlt
        have hce2 : Hid (cer L[k].2.2 (k : Int) = rerr L[k].2.2) := by
          rcases Nat.lt_or_ge k 64 with h | h
          · exact hce.out h
          · exact (hce'.out h).elim
        rw [hce2.out] at hbad hsn
        generalize L[k] = r at *
        obtain ⟨pa, pc, ps⟩ := r
        dsimp only at c1 hT hbad hsn
        generalize ps.length = m at *
        have hgo : Hid (∀ W1, Below wr.heap.size wr W1 → Below w.heap.size w W1) := fun W1 hb => hR.out.2.trans (hb.mono hR.out.2.size)
        clear hk hlt hkL hRw hce hce' hce2 hR
        go_wp2_with fail
        refine hT.out.mono ?_
        rintro e W1 ⟨rfl, hb1⟩
        have hb1' : Hid (Below w.heap.size w W1) := hgo.out W1 hb1
        by_cases hq : rerr ps = 0
        · have hfin : Hid ((∀ j (h : j < L.length), j < k + 1 → cer L[j].2.2 (j : Int) = 0) ∧ Below w.heap.size w W1) := ⟨hsn.out hq, hb1'.out⟩
          rw [hq]
          clear hb1 hT hbad hsn hgo hBw hq
          go_wp2_with fail
          go_roundw
          case rel => exact ⟨k + 1, hlt'.out, by go_num, hfin⟩
          case measure => have := hlt'.out; simp [intOf]; omega
        · have hfin : Hid (NmF w (sd L) (.returned (.tuple #[.int .i64 (rerr ps : Int), .int .i64 (k : Int)])) W1) := by
            obtain ⟨q1, q2, q3⟩ := hbad.out hq
            exact ⟨hb1'.out, Or.inr ⟨k, q1, q2, by rw [q3]⟩⟩
          have hq' : (((rerr ps : Nat) : Int) == 0) = false := by rw [beq_eq_false_iff_ne]; omega
          generalize rerr ps = rr at *
          clear hb1 hT hbad hsn hgo hBw hq
          go_wp2_with fail
          go_ret2
          exact hfin.out
    · have e : n = k := by omega
      subst e
      have i1 : ¬ (n : Int) < (n : Int) := by omega
      have hfin : Hid (NmF w (sd L) (.returned (.tuple #[.int .i64 0, .int .i64 0])) wr) := by
        refine ⟨hR.out.2, Or.inl ⟨fun j hj => ?_, rfl⟩⟩
        have hj' : j < L.length := by rw [sd_len] at hj; exact hj
        rw [sdAt L j hj']
        exact hR.out.1 j hj' (by rw [← hn'.out]; exact hj')
      clear hR hk hlt
      go_wp2_with fail
      go_ret2
      exact hfin.out

/-- A name's text: its parts with commas between. -/
def dtT (D : List (List PR)) : List UInt8 := D.flatMap fun r => 44 :: ptx r
def dtx : List (List PR) → List UInt8
  | [] => []
  | r :: t => ptx r ++ dtT t
theorem dtx_snoc (l : List (List PR)) (p : List PR) : dtx (l ++ [p]) = dtx l ++ (if l = [] then ptx p else 44 :: ptx p) := by
  cases l with
  | nil => simp [dtx, dtT]
  | cons r t => simp [dtx, dtT]
def rW (ps : List PR) : Nat := (ps.map ptW).sum + 1
def dW (D : List (List PR)) : Nat := (D.map rW).sum
theorem dtT_len (D : List (List PR)) : (dtT D).length ≤ dW D := by
  induction D with
  | nil => simp [dtT]
  | cons p l ih =>
    have := ptx_len p
    unfold dtT dW at ih ⊢
    simp only [List.flatMap_cons, List.length_append, List.length_cons, List.map_cons, List.sum_cons]
    have hr : rW p = (p.map ptW).sum + 1 := rfl
    omega
theorem dtx_len (D : List (List PR)) : (dtx D).length ≤ dW D := by
  cases D with
  | nil => simp [dtx]
  | cons p l =>
    have := ptx_len p
    have := dtT_len l
    simp only [dtx, List.length_append]
    unfold dW at this ⊢
    simp only [List.map_cons, List.sum_cons]
    have hr : rW p = (p.map ptW).sum + 1 := rfl
    omega
theorem dW_at (D : List (List PR)) (k : Nat) (h : k < D.length) : dW (D.take k) + rW D[k] ≤ dW D := by
  have e : dW D = dW (D.take (k + 1)) + dW (D.drop (k + 1)) := by unfold dW; rw [← List.sum_append, ← List.map_append, List.take_append_drop]
  have e2 : dW (D.take (k + 1)) = dW (D.take k) + rW D[k] := by unfold dW; rw [List.take_succ_eq_append_getElem h, List.map_append, List.sum_append]; simp
  omega
theorem own_form {W : World} {B : Nat} {v : Value} {l : List UInt8} (h : Own W B v l) : ∃ a c, v = .slice a l.length c := by
  rcases h.2 with ⟨rfl, hn⟩ | ⟨g, cap, cur, rfl, hrest⟩
  · exact ⟨none, 0, by rw [hn]⟩
  · exact ⟨_, _, rfl⟩
theorem own_bn {W : World} {B bn bc : Nat} {ba : Option Addr} {l : List UInt8} (h : Own W B (.slice ba bn bc) l) : bn = l.length := by
  obtain ⟨a, c, e⟩ := own_form h
  injection e with e1 e2 e3
end Ke
end Go.Proofs.YtfmhcgadgakbhaaGreatDoor

namespace Go.Proofs.YtfmhcgadgakbhaaGreatDoor
namespace Ke
open TextMath (fold lo normal check)
set_option linter.unusedVariables false

/-- No canonical type is empty. -/
theorem nm_pos : ∀ i : Fin 62, (rowL i).1.data.toList ≠ [] := by decide +kernel
theorem tyC_ne (s : List UInt8) (h : tyOk s = true) : tyC s ≠ [] := by
  unfold tyOk at h
  have h := of_decide_eq_true h
  unfold tyC tyR parsT at *
  split at h
  · rename_i hc
    rw [if_pos hc]
    show (canN (S (fold s))).data.toList ≠ []
    unfold canN
    split
    · intro he
      have h1 := hc.1
      rw [he] at h1
      revert h1
      decide
    · rename_i i _
      exact nm_pos i
  · simp at h
/-- Sorted by types, none twice. -/
theorem srt_lt {ps : List PR} (h : OkP ps) : (srtP (ps.map cn)).Pairwise fun x y => x.1 < y.1 := by
  obtain ⟨h1, _, h2⟩ := srt_holds (ps.map cn)
  have hnd := (h1.map Prod.fst).nodup_iff.2 (okP_nodup h)
  unfold List.Nodup at hnd
  rw [List.pairwise_map] at hnd
  refine (h2.and hnd).imp ?_
  rintro x y ⟨q1, q2⟩
  rcases Classical.em (x.1 < y.1) with q | q
  · exact q
  · exact absurd (List.le_antisymm q1 q) q2
/-- The type that was written last, ahead of the n-th. -/
def lastT (ps : List PR) : Nat → List UInt8
  | 0 => []
  | n + 1 => ((srtP (ps.map cn)).getD n ([], [])).1
/-- The least type above 'last' among the pairs, and its value. -/
def Sel (last : List UInt8) (l : List PR) (least value : List UInt8) : Prop :=
  (least = [] ∧ ∀ p ∈ l, ¬ last < tyC p.1) ∨ (∃ p ∈ l, tyC p.1 = least ∧ p.2 = value ∧ last < least ∧ ∀ q ∈ l, last < tyC q.1 → least ≤ tyC q.1)
theorem Sel.zero (last : List UInt8) (v : List UInt8) : Sel last [] [] v := Or.inl ⟨rfl, fun p hp => by simp at hp⟩
/-- One pair more. -/
theorem Sel.take {last : List UInt8} {l : List PR} {least value : List UInt8} (h : Sel last l least value) (p : PR) (h1 : last < tyC p.1) (h2 : least = [] ∨ tyC p.1 < least) : Sel last (l ++ [p]) (tyC p.1) p.2 := by
  refine Or.inr ⟨p, by simp, rfl, rfl, h1, fun q hq hlt => ?_⟩
  rcases List.mem_append.1 hq with hq | hq
  · rcases h with ⟨_, h⟩ | ⟨r, hr, e1, e2, h3, h4⟩
    · exact absurd hlt (h q hq)
    · rcases h2 with e | e
      · rw [e] at h3
        exact absurd h3 (List.not_lt_nil _)
      · exact List.le_trans (List.le_of_lt e) (h4 q hq hlt)
  · rw [List.mem_singleton.1 hq]
    exact List.le_refl _
theorem Sel.skip {last : List UInt8} {l : List PR} {least value : List UInt8} (h : Sel last l least value) (p : PR) (hn : ¬ (last < tyC p.1 ∧ (least = [] ∨ tyC p.1 < least))) : Sel last (l ++ [p]) least value := by
  rcases h with ⟨e, h⟩ | ⟨r, hr, e1, e2, h3, h4⟩
  · refine Or.inl ⟨e, fun q hq => ?_⟩
    rcases List.mem_append.1 hq with hq | hq
    · exact h q hq
    · rw [List.mem_singleton.1 hq]
      exact fun hl => hn ⟨hl, Or.inl e⟩
  · refine Or.inr ⟨r, by simp [hr], e1, e2, h3, fun q hq hlt => ?_⟩
    rcases List.mem_append.1 hq with hq | hq
    · exact h4 q hq hlt
    · rw [List.mem_singleton.1 hq] at hlt ⊢
      exact fun hl => hn ⟨hlt, Or.inr hl⟩
/-- So the next pair's text is the next of the sorted ones. -/
theorem Sel.next {ps : List PR} (h : OkP ps) (n : Nat) (hn : n < ps.length) {least value : List UInt8} (hs : Sel (lastT ps n) ps least value) : (srtP (ps.map cn))[n]? = some (least, normal value) ∧ least ≠ [] ∧ lastT ps (n + 1) = least := by
  have hl : (srtP (ps.map cn)).length = ps.length := by rw [(srt_holds (ps.map cn)).2.1, List.length_map]
  have hP := (srt_holds (ps.map cn)).1
  have hlt := srt_lt h
  rw [List.pairwise_iff_getElem] at hlt
  have hn' : n < (srtP (ps.map cn)).length := by omega
  obtain ⟨x, hx⟩ : ∃ x, (srtP (ps.map cn))[n] = x := ⟨_, rfl⟩
  have hxm : x ∈ ps.map cn := hP.subset (by rw [← hx]; exact List.getElem_mem _)
  obtain ⟨p0, hp0, e0⟩ := List.mem_map.1 hxm
  have hne : ∀ p ∈ ps, tyC p.1 ≠ [] := fun p hp => by
    obtain ⟨i, hi, rfl⟩ := List.getElem_of_mem hp
    obtain ⟨_, q, _⟩ := h.2.2 i hi
    exact tyC_ne _ q
  -- what stands ahead of the n-th
  have habove : lastT ps n < x.1 := by
    cases n with
    | zero =>
      show ([] : List UInt8) < x.1
      rw [← e0]
      have := hne p0 hp0
      show ([] : List UInt8) < tyC p0.1
      cases ht : tyC p0.1 with
      | nil => exact absurd ht this
      | cons a t => exact List.nil_lt_cons a t
    | succ n =>
      show ((srtP (ps.map cn)).getD n ([], [])).1 < x.1
      rw [List.getD_eq_getElem?_getD, List.getElem?_eq_getElem (by omega), ← hx]
      exact hlt n (n + 1) (by omega) hn' (by omega)
  have hbelow : ∀ y ∈ ps.map cn, lastT ps n < y.1 → x.1 ≤ y.1 := fun y hy hl' => by
    obtain ⟨j, hj, rfl⟩ := List.getElem_of_mem (hP.symm.subset hy)
    rcases Nat.lt_trichotomy j n with q | q | q
    · exfalso
      cases n with
      | zero => omega
      | succ n =>
        have hl2 : ((srtP (ps.map cn)).getD n ([], [])).1 < ((srtP (ps.map cn))[j]).1 := hl'
        rw [List.getD_eq_getElem?_getD, List.getElem?_eq_getElem (by omega)] at hl2
        by_cases e : j = n
        · subst e
          exact List.lt_irrefl _ hl2
        · exact List.lt_asymm hl2 (hlt j n hj (by omega) (by omega))
    · subst q
      rw [hx]
      exact List.le_refl _
    · rw [← hx]
      exact List.le_of_lt (hlt n j hn' hj q)
  have hx1 : x.1 = tyC p0.1 := by rw [← e0]; rfl
  rcases hs with ⟨_, hs⟩ | ⟨p, hp, e1, e2, h3, h4⟩
  · exact absurd (by rw [← hx1]; exact habove) (hs p0 hp0)
  · have hle1 : least ≤ x.1 := by rw [hx1]; exact h4 p0 hp0 (by rw [← hx1]; exact habove)
    have hle2 : x.1 ≤ least := by
      rw [← e1]
      exact hbelow (cn p) (List.mem_map_of_mem hp) (by show lastT ps n < tyC p.1; rw [e1]; exact h3)
    have hex : x.1 = least := List.le_antisymm hle2 hle1
    -- the same type: the same pair
    have hcp : cn p = x := by
      have hnd := okP_nodup h
      unfold List.Nodup at hnd
      rw [List.pairwise_map, List.pairwise_iff_getElem] at hnd
      obtain ⟨i, hi, ei⟩ := List.getElem_of_mem (List.mem_map_of_mem (f := cn) hp)
      obtain ⟨j, hj, ej⟩ := List.getElem_of_mem hxm
      have hij : i = j := by
        rcases Nat.lt_trichotomy i j with q | q | q
        · exact absurd (by rw [ei, ej, hex, ← e1]; rfl) (hnd i j hi hj q)
        · exact q
        · exact absurd (by rw [ei, ej, hex, ← e1]; rfl) (hnd j i hj hi q)
      subst hij
      rw [← ei, ej]
    refine ⟨?_, by rw [← e1]; exact hne p hp, ?_⟩
    · rw [List.getElem?_eq_getElem hn', hx, ← hcp]
      unfold cn
      rw [e1, e2]
    · show ((srtP (ps.map cn)).getD n ([], [])).1 = least
      rw [List.getD_eq_getElem?_getD, List.getElem?_eq_getElem hn', hx]
      exact hex
end Ke
end Go.Proofs.YtfmhcgadgakbhaaGreatDoor
