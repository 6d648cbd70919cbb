import Derived.Test.YthpfnajgbocpnaaPtRfC
namespace Go.Proofs.Ythpfnajgbocpnaa
namespace Pt
open Go.RowKit Go.Sort Go.Lib
open PtMath (Inc setOf cnt)
set_option linter.unusedVariables false
set_option maxRecDepth 100000
open PtT (Rk TB en)
variable {Tk : PtT.Rk}

theorem cnt_mono (O : List Nat) {x y : Nat} (h : x ≤ y) : cnt O x ≤ cnt O y := by
  unfold PtMath.cnt
  exact List.countP_mono_left (fun z _ hz => by simp at hz ⊢; omega)
/-- The head behind all that are below x is x, just if x stands there. -/
theorem head_mem {O : List Nat} (h : Inc O) (x : Nat) : (match O.drop (cnt O x) with | [] => false | y :: _ => decide (y = x)) = decide (x ∈ O) := by
  obtain ⟨h1, h2⟩ := PtMath.cnt_split O x h
  have hl := PtMath.cnt_len O x
  by_cases hm : x ∈ O
  · obtain ⟨j, hj, rfl⟩ := List.getElem_of_mem hm
    have e : cnt O O[j] = j := PtMath.cnt_at O O[j] j (Nat.le_of_lt hj) (fun i hi hij => List.pairwise_iff_getElem.1 h i j hi hj hij) h (fun _ => Nat.le_refl _)
    rw [e, PtMath.drop_step hj]
    simp
  · rw [decide_eq_false hm]
    by_cases hc : cnt O x < O.length
    · rw [PtMath.drop_step hc]
      have : O[cnt O x] ≠ x := fun e => hm (by rw [← e]; exact List.getElem_mem hc)
      simp [this]
    · rw [List.drop_eq_nil_of_le (by omega)]
def sft (O : List Nat) (b : Bool) (S : List Nat) : List Nat := S.filter fun x => decide (x ∈ O) == b
theorem Cur.keepS {w w' : World} {lo b : Nat} {l : List Nat} (h : Cur Tk w lo b l) (hb : Below w.heap.size w w') (hlo : lo ≤ b) : Cur Tk w' lo b l := h.same (fun k h1 h2 => hb.block k (by have := h.lt; omega)) hlo

set_option maxRecDepth 100000 in
set_option maxHeartbeats 1000000 in
theorem sift_any (a : Option Addr) (S : List Nat) (c : Nat) (b : Option Addr) (O : List Nat) (d : Nat) (bb : Bool) (w : World) (hr : NRow Tk w a S) (hI : Inc S) (hl : S.length ≤ 4194304) (hq : NRow Tk w b O) (hJ : Inc O) (hd : O.length ≤ d) (hdm : d ≤ maxLen) (hol : O.length ≤ 140737488355328) :
    Calls Try.prog 21 #[.slice a S.length c, .slice b O.length d, .bool bb] w fun e w' => ∃ v, e = .returned v ∧ OwnI Tk w' w.heap.size v (sft O bb S) ∧ Below w.heap.size w w' := by
  have g0 : (w.alloc (Obj.cells #[Value.slice b O.length d] 45)).heap[w.heap.size]? = some (.cells #[Value.slice b O.length d] 45 (0, 0)) := heap_alloc_new _ _
  have hB0 : Below w.heap.size w (w.alloc (Obj.cells #[Value.slice b O.length d] 45)) := (Below.refl _ _).alloc (Nat.le_refl _) _
  have hC0 : Hid (Cur Tk (w.alloc (Obj.cells #[Value.slice b O.length d] 45)) 0 w.heap.size O) := by
    refine ⟨b, d, (at_block g0).1, (at_block g0).2, hq.below hB0, hd, hdm, hol, fun x hne hx => ⟨Nat.zero_le _, ?_⟩⟩
    obtain ⟨y, l', e⟩ := List.exists_cons_of_ne_nil hne
    obtain ⟨b', off, e2, h1⟩ := hq 0 (by rw [e]; simp)
    rw [hx] at e2
    injection e2 with e2
    subst e2
    exact World.block_lt_of_cell? w _ h1
  have hS : Hid (NRow Tk w a S ∧ Inc S ∧ S.length ≤ 4194304 ∧ Inc O) := ⟨hr, hI, hl, hJ⟩
  obtain ⟨W0, hW0⟩ : ∃ W0, w.alloc (Obj.cells #[Value.slice b O.length d] 45) = W0 := ⟨_, rfl⟩
  rw [hW0] at hC0
  have hB0' : Hid (Below w.heap.size w W0 ∧ w.heap.size < W0.heap.size) := ⟨by rw [← hW0]; exact hB0, by rw [← hW0]; simp⟩
  have nb : (S.length : Int) ≤ 17592186044416 := by omega
  obtain ⟨n, hn⟩ : ∃ n, S.length = n := ⟨_, rfl⟩
  rw [hn] at nb ⊢
  have hn' : Hid (S.length = n) := hn
  clear hr hI hl hq hJ hd hdm hol g0 hB0 hn
  go_enter Try.func21, Try.ntmps21
  go_wp2_with fail
  clear hW0
  go_loopw [7, 18] (fun v iv wr => ∃ (k t : Nat), iv = .int .i64 (k : Int) ∧ k ≤ n ∧ Hid (Cur Tk wr 0 w.heap.size (O.drop t) ∧ (∀ j (h : j < S.length), k ≤ j → t ≤ cnt O S[j]) ∧ OwnI Tk wr (w.heap.size + 1) v (sft O bb (S.take k)) ∧ Below w.heap.size w wr ∧ w.heap.size < wr.heap.size)) (fun _ iv _ => n - (intOf iv).toNat)
  case atStart => exact ⟨0, 0, rfl, Nat.zero_le _, by rw [List.drop_zero]; exact hC0.out, fun j h _ => Nat.zero_le _, ownI_nil _ _, hB0'.out⟩
  case round =>
    obtain ⟨k, t, rfl, hk, hQ⟩ := hrel
    have k0 : (0 : Int) ≤ (k : Int) := Int.natCast_nonneg _
    by_cases hlt : k < n
    · have k1 : (k : Int) < (n : Int) := Int.ofNat_lt.2 hlt
      have hkS : k < S.length := by rw [hn'.out]; exact hlt
      obtain ⟨b1, o1, rfl, c1⟩ := (hS.out.1.below hQ.out.2.2.2.1) k hkS
      have hlt' : Hid (k < n) := hlt
      have htk : sft O bb (S.take (k + 1)) = sft O bb (S.take k) ++ (if (decide (S[k] ∈ O) == bb) = true then [S[k]] else []) := by
        unfold sft
        rw [List.take_succ_eq_append_getElem hkS, List.filter_append]
        congr 1
        by_cases e : (decide (S[k] ∈ O) == bb) = true
        · rw [if_pos e]; simp only [List.filter_cons, List.filter_nil, e, if_true]
        · rw [if_neg e]; simp only [List.filter_cons, List.filter_nil, Bool.eq_false_iff.2 e, Bool.false_eq_true, if_false]
      have hsl : Hid (((sft O bb (S.take k)).length + 1) * 16 ≤ 140737488355328) := by
        have h1 : (sft O bb (S.take k)).length ≤ (S.take k).length := List.length_filter_le _ _
        rw [List.length_take] at h1
        have := hS.out.2.2.1
        unfold Hid
        omega
      have hmono : ∀ j (h : j < S.length), k + 1 ≤ j → cnt O S[k] ≤ cnt O S[j] := fun j h h1 => cnt_mono O (Nat.le_of_lt (List.pairwise_iff_getElem.1 hS.out.2.1 k j hkS h (by omega)))
      have hSk : Hid (Calls Try.prog 27 #[.pointer (some ⟨w.heap.size, 0, none⟩), .string (TB Tk S[k])] wr fun e w' => e = .returned (.tuple #[]) ∧ (Cur Tk w' 0 w.heap.size (O.drop (cnt O S[k])) ∧ (∀ j (h : j < S.length), k + 1 ≤ j → cnt O S[k] ≤ cnt O S[j]) ∧ OwnI Tk w' (w.heap.size + 1) u7 (sft O bb (S.take k)) ∧ Below w.heap.size w w' ∧ w.heap.size < w'.heap.size)) := by
        obtain ⟨q1, q2, q3, q4, q5⟩ := hQ.out
        refine (skip_any 0 w.heap.size (O.drop t) S[k] wr q1 (PtMath.inc_drop hS.out.2.2.2 t)).mono ?_
        rintro e w' ⟨h1, h2, h3⟩
        have ht := q2 k hkS (Nat.le_refl _)
        rw [List.drop_drop, cnt_drop hS.out.2.2.2, show t + (cnt O S[k] - t) = cnt O S[k] by omega] at h2
        exact ⟨h1, h2, hmono, ownI_but q3 h3 (by omega), q4.trans (h3.below (Nat.le_refl _)), by rw [h3.2.2.2.1]; exact q5⟩
      have hmem0 := head_mem hS.out.2.2.2 S[k]
      clear hQ hmono hk hlt
      generalize S[k] = x at *
      generalize hM : O.drop (cnt O x) = M at hmem0
      cases M with
      | nil =>
        have hmem : decide (x ∈ O) = false := hmem0.symm
        have hHr : ∀ W, Hid (Cur Tk W 0 w.heap.size (O.drop (cnt O x)) → Calls Try.prog 28 #[.pointer (some ⟨w.heap.size, 0, none⟩)] W fun e w' => e = .returned (.tuple #[.string ⟨#[]⟩, .bool false]) ∧ w' = W) := fun W hW => by
          rw [hM] at hW
          exact here_any 0 w.heap.size [] W hW
        clear hM hmem0 hkS
        cases bb with
        | true =>
          have hT : Hid (sft O true (S.take (k + 1)) = sft O true (S.take k)) := by
            unfold Hid
            rw [htk, if_neg (by rw [hmem]; decide), List.append_nil]
          clear htk
          go_wp2_with (first
            | (go_at_call 27; refine hSk.out.mono ?_; rintro e w5 ⟨rfl, hR5⟩; have hR5' : Hid _ := hR5; have hHe := (hHr w5).out hR5.1; clear hR5)
            | (go_at_call 28; refine hHe.mono ?_; rintro e w5 ⟨rfl, rfl⟩))
          have hfin : Hid _ := hR5'.out
          go_roundw
          case rel => exact ⟨k + 1, _, by simp, hlt'.out, hfin.out.1, hfin.out.2.1, by rw [hT.out]; exact hfin.out.2.2.1, hfin.out.2.2.2⟩
          case measure => have := hlt'.out; simp [intOf]; omega
        | false =>
          have hT : Hid (sft O false (S.take (k + 1)) = sft O false (S.take k) ++ [x]) := by
            unfold Hid
            rw [htk, if_pos (by rw [hmem]; rfl)]
          clear htk
          go_wp2_with (first
            | (go_at_call 27; refine hSk.out.mono ?_; rintro e w5 ⟨rfl, hR5⟩; have hR5' : Hid _ := hR5; have hHe := (hHr w5).out hR5.1; clear hR5)
            | (go_at_call 28; refine hHe.mono ?_; rintro e w5 ⟨rfl, rfl⟩)
            | (at_builtin; refine push_int (Tk := Tk) _ rfl _ _ rfl (w.heap.size + 1) _ (sft O false (S.take k)) x _ rfl rfl ?_ ?_ ?_ ?_ ?_; (exact World.ownsRow.alloc hR5'.out.2.2.1 _); (exact heap_alloc_new _ _); (have := hR5'.out.2.2.2.2; simp; omega); (have := hsl.out; omega); intro g' cap' w6 hO6 hg6 hl6 hb6))
          have hfin : Hid (Cur Tk w6 0 w.heap.size (O.drop (cnt O x)) ∧ (∀ j (h : j < S.length), k + 1 ≤ j → cnt O x ≤ cnt O S[j]) ∧ OwnI Tk w6 (w.heap.size + 1) (.slice (some ⟨g', 0, none⟩) ((sft O false (S.take k)).length + 1) cap') (sft O false (S.take (k + 1))) ∧ Below w.heap.size w w6 ∧ w.heap.size < w6.heap.size) := by
            have hR := hR5'.out
            have hb7 : Below (w.heap.size + 1) w5 w6 := ((Below.refl _ _).alloc (by have := hR.2.2.2.2; omega) _).trans hb6
            refine ⟨?_, hR.2.1, by rw [hT.out]; exact hO6, hR.2.2.2.1.trans (hb7.mono (by omega)), by have := hb7.size; have := hR.2.2.2.2; omega⟩
            exact hR.1.same (fun q _ h2 => hb7.block q (by omega)) (Nat.zero_le _)
          clear hO6 hg6 hl6 hb6
          go_roundw
          case rel => exact ⟨k + 1, _, by simp, hlt'.out, hfin⟩
          case measure => have := hlt'.out; simp [intOf]; omega
      | cons y T =>
        have hHr : ∀ W, Hid (Cur Tk W 0 w.heap.size (O.drop (cnt O x)) → Calls Try.prog 28 #[.pointer (some ⟨w.heap.size, 0, none⟩)] W fun e w' => e = .returned (.tuple #[.string (TB Tk y), .bool true]) ∧ w' = W) := fun W hW => by
          rw [hM] at hW
          exact here_any 0 w.heap.size (y :: T) W hW
        clear hM hkS
        by_cases e : y = x
        · have hmem : decide (x ∈ O) = true := by rw [← hmem0]; simp [e]
          subst e
          clear hmem0
          cases bb with
          | true =>
            have hT : Hid (sft O true (S.take (k + 1)) = sft O true (S.take k) ++ [y]) := by
              unfold Hid
              rw [htk, if_pos (by rw [hmem]; rfl)]
            clear htk
            go_wp2_with (first
              | (go_at_call 27; refine hSk.out.mono ?_; rintro e w5 ⟨rfl, hR5⟩; have hR5' : Hid _ := hR5; have hHe := (hHr w5).out hR5.1; clear hR5)
              | (go_at_call 28; refine hHe.mono ?_; rintro e w5 ⟨rfl, rfl⟩)
              | (at_builtin; refine push_int (Tk := Tk) _ rfl _ _ rfl (w.heap.size + 1) _ (sft O true (S.take k)) y _ rfl rfl ?_ ?_ ?_ ?_ ?_; (exact World.ownsRow.alloc hR5'.out.2.2.1 _); (exact heap_alloc_new _ _); (have := hR5'.out.2.2.2.2; simp; omega); (have := hsl.out; omega); intro g' cap' w6 hO6 hg6 hl6 hb6))
            have hfin : Hid (Cur Tk w6 0 w.heap.size (O.drop (cnt O y)) ∧ (∀ j (h : j < S.length), k + 1 ≤ j → cnt O y ≤ cnt O S[j]) ∧ OwnI Tk w6 (w.heap.size + 1) (.slice (some ⟨g', 0, none⟩) ((sft O true (S.take k)).length + 1) cap') (sft O true (S.take (k + 1))) ∧ Below w.heap.size w w6 ∧ w.heap.size < w6.heap.size) := by
              have hR := hR5'.out
              have hb7 : Below (w.heap.size + 1) w5 w6 := ((Below.refl _ _).alloc (by have := hR.2.2.2.2; omega) _).trans hb6
              refine ⟨?_, hR.2.1, by rw [hT.out]; exact hO6, hR.2.2.2.1.trans (hb7.mono (by omega)), by have := hb7.size; have := hR.2.2.2.2; omega⟩
              exact hR.1.same (fun q _ h2 => hb7.block q (by omega)) (Nat.zero_le _)
            clear hO6 hg6 hl6 hb6
            go_roundw
            case rel => exact ⟨k + 1, _, by simp, hlt'.out, hfin⟩
            case measure => have := hlt'.out; simp [intOf]; omega
          | false =>
            have hT : Hid (sft O false (S.take (k + 1)) = sft O false (S.take k)) := by
              unfold Hid
              rw [htk, if_neg (by rw [hmem]; decide), List.append_nil]
            clear htk
            go_wp2_with (first
              | (go_at_call 27; refine hSk.out.mono ?_; rintro e w5 ⟨rfl, hR5⟩; have hR5' : Hid _ := hR5; have hHe := (hHr w5).out hR5.1; clear hR5)
              | (go_at_call 28; refine hHe.mono ?_; rintro e w5 ⟨rfl, rfl⟩))
            have hfin : Hid _ := hR5'.out
            go_roundw
            case rel => exact ⟨k + 1, _, by simp, hlt'.out, hfin.out.1, hfin.out.2.1, by rw [hT.out]; exact hfin.out.2.2.1, hfin.out.2.2.2⟩
            case measure => have := hlt'.out; simp [intOf]; omega
        · have hmem : decide (x ∈ O) = false := by rw [← hmem0]; simp [e]
          have e' : ((TB Tk y).toList == (TB Tk x).toList) = false := PtT.beq_ne Tk e
          clear hmem0
          cases bb with
          | true =>
            have hT : Hid (sft O true (S.take (k + 1)) = sft O true (S.take k)) := by
              unfold Hid
              rw [htk, if_neg (by rw [hmem]; decide), List.append_nil]
            clear htk
            go_wp2_with (first
              | (go_at_call 27; refine hSk.out.mono ?_; rintro e w5 ⟨rfl, hR5⟩; have hR5' : Hid _ := hR5; have hHe := (hHr w5).out hR5.1; clear hR5)
              | (go_at_call 28; refine hHe.mono ?_; rintro e w5 ⟨rfl, rfl⟩))
            have hfin : Hid _ := hR5'.out
            go_roundw
            case rel => exact ⟨k + 1, _, by simp, hlt'.out, hfin.out.1, hfin.out.2.1, by rw [hT.out]; exact hfin.out.2.2.1, hfin.out.2.2.2⟩
            case measure => have := hlt'.out; simp [intOf]; omega
          | false =>
            have hT : Hid (sft O false (S.take (k + 1)) = sft O false (S.take k) ++ [x]) := by
              unfold Hid
              rw [htk, if_pos (by rw [hmem]; rfl)]
            clear htk
            go_wp2_with (first
              | (go_at_call 27; refine hSk.out.mono ?_; rintro e w5 ⟨rfl, hR5⟩; have hR5' : Hid _ := hR5; have hHe := (hHr w5).out hR5.1; clear hR5)
              | (go_at_call 28; refine hHe.mono ?_; rintro e w5 ⟨rfl, rfl⟩)
              | (at_builtin; refine push_int (Tk := Tk) _ rfl _ _ rfl (w.heap.size + 1) _ (sft O false (S.take k)) x _ rfl rfl ?_ ?_ ?_ ?_ ?_; (exact World.ownsRow.alloc hR5'.out.2.2.1 _); (exact heap_alloc_new _ _); (have := hR5'.out.2.2.2.2; simp; omega); (have := hsl.out; omega); intro g' cap' w6 hO6 hg6 hl6 hb6))
            have hfin : Hid (Cur Tk w6 0 w.heap.size (O.drop (cnt O x)) ∧ (∀ j (h : j < S.length), k + 1 ≤ j → cnt O x ≤ cnt O S[j]) ∧ OwnI Tk w6 (w.heap.size + 1) (.slice (some ⟨g', 0, none⟩) ((sft O false (S.take k)).length + 1) cap') (sft O false (S.take (k + 1))) ∧ Below w.heap.size w w6 ∧ w.heap.size < w6.heap.size) := by
              have hR := hR5'.out
              have hb7 : Below (w.heap.size + 1) w5 w6 := ((Below.refl _ _).alloc (by have := hR.2.2.2.2; omega) _).trans hb6
              refine ⟨?_, hR.2.1, by rw [hT.out]; exact hO6, hR.2.2.2.1.trans (hb7.mono (by omega)), by have := hb7.size; have := hR.2.2.2.2; omega⟩
              exact hR.1.same (fun q _ h2 => hb7.block q (by omega)) (Nat.zero_le _)
            clear hO6 hg6 hl6 hb6
            go_roundw
            case rel => exact ⟨k + 1, _, by simp, hlt'.out, hfin⟩
            case measure => have := hlt'.out; simp [intOf]; omega
    · have e : k = n := by omega
      subst e
      have k1 : ¬ (k : Int) < (k : Int) := by omega
      have hE : Hid (OwnI Tk wr w.heap.size u7 (sft O bb S) ∧ Below w.heap.size w wr) := by
        have h1 := hQ.out.2.2.1
        rw [← hn'.out, List.take_length] at h1
        exact ⟨ownI_base h1 (by omega), hQ.out.2.2.2.1⟩
      clear hQ hk hlt
      go_wp2_with fail
      go_ret
      exact ⟨_, rfl, hE.out⟩
end Pt
end Go.Proofs.Ythpfnajgbocpnaa
