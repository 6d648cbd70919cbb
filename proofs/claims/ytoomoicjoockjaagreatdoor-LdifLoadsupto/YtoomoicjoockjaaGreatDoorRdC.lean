import Derived.Test.YtoomoicjoockjaaGreatDoorRdB
import Derived.Lib.AppendZeros
namespace Go.Proofs.YtoomoicjoockjaaGreatDoor
namespace Rd
open Go.RowKit
open TextMath (b64 fold unb)
open LdMath
open Lr (PR RC pf chg okD dnB ChgTab GOwn GRow pV pV_len Kd PX RX rV rV_len append_gen)
set_option linter.unusedVariables false
set_option maxRecDepth 100000

theorem info_pair : (Tryz.prog.info? 50).map (fun i => (i.zero, i.size, i.bytes)) = some (some (.agg #[.string ⟨#[]⟩, .string ⟨#[]⟩]), 2, 32) := by kernel_rfl
theorem info_rec : (Tryz.prog.info? 34).map (fun i => (i.zero, i.size, i.bytes)) = some (some (.agg #[.int .i64 0, .string ⟨#[]⟩, .slice none 0 0]), 3, 48) := by kernel_rfl
theorem KDp : Kd 50 32 2 32 pV := by
  obtain ⟨i0, hi, hz0, hz1, hz2⟩ := info_parts info_pair
  exact ⟨Tryz.underlying32, ⟨i0, _, hi, hz0, hz1, hz2, rfl⟩, by decide, by decide, pV_len, fun x u hu => by simp [pV] at hu; rcases hu with rfl | rfl <;> rfl⟩
theorem KDr : Kd 34 22 3 48 rV := by
  obtain ⟨i0, hi, hz0, hz1, hz2⟩ := info_parts info_rec
  exact ⟨Tryz.underlying22, ⟨i0, _, hi, hz0, hz1, hz2, rfl⟩, by decide, by decide, rV_len, fun x u hu => by simp [rV] at hu; rcases hu with rfl | rfl | rfl <;> rfl⟩

/-- A reader's box. -/
def RB (W : World) (rb : Nat) (k ln : Nat) (nm : List UInt8) (v : Value) : Prop := W.heap[rb]? = some (.cells #[.int .i64 (k : Int), .int .i64 (ln : Int), .string (S nm), v] 65 (0, 0))
theorem RB.below {W W' : World} {rb k ln : Nat} {nm : List UInt8} {v : Value} (h : RB W rb k ln nm v) (hb : Below W.heap.size W W') : RB W' rb k ln nm v := (hb.block rb (Array.getElem?_eq_some_iff.1 h).1).trans h
theorem RB.c0 {W : World} {rb k ln : Nat} {nm : List UInt8} {v : Value} (h : RB W rb k ln nm v) : W.cell? ⟨rb, 0, none⟩ = some (.int .i64 (k : Int)) ∧ W.frozen? ⟨rb, 0, none⟩ = false := ⟨by rw [cell_of_row _ _ _ _ _ _ h]; rfl, Go.frozen_of_row _ _ _ _ _ h⟩
theorem RB.c1 {W : World} {rb k ln : Nat} {nm : List UInt8} {v : Value} (h : RB W rb k ln nm v) : W.cell? ⟨rb, 1, none⟩ = some (.int .i64 (ln : Int)) ∧ W.frozen? ⟨rb, 1, none⟩ = false := ⟨by rw [cell_of_row _ _ _ _ _ _ h]; rfl, Go.frozen_of_row _ _ _ _ _ h⟩
theorem RB.c2 {W : World} {rb k ln : Nat} {nm : List UInt8} {v : Value} (h : RB W rb k ln nm v) : W.cell? ⟨rb, 2, none⟩ = some (.string (S nm)) ∧ W.frozen? ⟨rb, 2, none⟩ = false := ⟨by rw [cell_of_row _ _ _ _ _ _ h]; rfl, Go.frozen_of_row _ _ _ _ _ h⟩
theorem RB.c3 {W : World} {rb k ln : Nat} {nm : List UInt8} {v : Value} (h : RB W rb k ln nm v) : W.cell? ⟨rb, 3, none⟩ = some v ∧ W.frozen? ⟨rb, 3, none⟩ = false := ⟨by rw [cell_of_row _ _ _ _ _ _ h]; rfl, Go.frozen_of_row _ _ _ _ _ h⟩
theorem RB.s0 {W : World} {rb k ln : Nat} {nm : List UInt8} {v : Value} (h : RB W rb k ln nm v) (k' : Nat) : RB (W.setCell ⟨rb, 0, none⟩ (.int .i64 (k' : Int))) rb k' ln nm v := Go.heap_setCell_same _ _ 0 _ _ _ h
theorem RB.s1 {W : World} {rb k ln : Nat} {nm : List UInt8} {v : Value} (h : RB W rb k ln nm v) (k' : Nat) : RB (W.setCell ⟨rb, 1, none⟩ (.int .i64 (k' : Int))) rb k k' nm v := Go.heap_setCell_same _ _ 1 _ _ _ h
theorem RB.s2 {W : World} {rb k ln : Nat} {nm : List UInt8} {v : Value} (h : RB W rb k ln nm v) (x : List UInt8) : RB (W.setCell ⟨rb, 2, none⟩ (.string (S x))) rb k ln x v := Go.heap_setCell_same _ _ 2 _ _ _ h
theorem RB.s3 {W : World} {rb k ln : Nat} {nm : List UInt8} {v : Value} (h : RB W rb k ln nm v) (v' : Value) : RB (W.setCell ⟨rb, 3, none⟩ v') rb k ln nm v' := Go.heap_setCell_same _ _ 3 _ _ _ h
/-- All but the reader's box and its pairs stay. -/
def Fr (rb : Nat) (v : Value) (w w' : World) : Prop := (w'.os = w.os ∧ w'.tape = w.tape ∧ w'.output = w.output) ∧ w.heap.size ≤ w'.heap.size ∧ ∀ k, k < w.heap.size → k ≠ rb → v.ownBlock ≠ some k → w'.heap[k]? = w.heap[k]?
theorem Fr.of_below {rb : Nat} {v : Value} {w w' : World} (h : Below w.heap.size w w') : Fr rb v w w' := ⟨⟨h.os, h.tape, h.output⟩, h.size, fun k hk _ _ => h.block k hk⟩
theorem Fr.set {rb : Nat} {v : Value} {w w' : World} (h : Fr rb v w w') (j : Nat) (y : Value) : Fr rb v w (w'.setCell ⟨rb, j, none⟩ y) := ⟨h.1, by rw [World.size_setCell]; exact h.2.1, fun k hk hn hv => by rw [Below.heap_setCell _ _ _ _ hn]; exact h.2.2 k hk hn hv⟩
theorem Fr.grown {rb : Nat} {v : Value} {w w1 w2 : World} (h : Fr rb v w w1) (hg : w1.grownBy w2 v.ownBlock) : Fr rb v w w2 := ⟨⟨hg.os.trans h.1.1, hg.tape.trans h.1.2.1, hg.output.trans h.1.2.2⟩, Nat.le_trans h.2.1 hg.size, fun k hk hn hv => (hg.block k (Nat.lt_of_lt_of_le hk h.2.1) (fun e => hv e.symm)).trans (h.2.2 k hk hn hv)⟩

theorem Fr.trans0 {rb : Nat} {v : Value} {w w1 w2 : World} (h : Fr rb v w w1) (hb : Below w1.heap.size w1 w2) : Fr rb v w w2 := ⟨⟨hb.os.trans h.1.1, hb.tape.trans h.1.2.1, hb.output.trans h.1.2.2⟩, Nat.le_trans h.2.1 hb.size, fun k hk hn hv => (hb.block k (Nat.lt_of_lt_of_le hk h.2.1)).trans (h.2.2 k hk hn hv)⟩
/-- The pairs that take may write. -/
def pvw (k : Nat) (v : Value) : Value := if 3 ≤ k then v else .slice none 0 0
/-- What take leaves. -/
def TkQ (rb B : Nat) (v : Value) (st : St) (n : Nat) (t : List UInt8) (w : World) (w' : World) : Prop := Fr rb (pvw st.1 v) w w' ∧ (takeF st t = 0 → ∃ v', RB w' rb (takeS st n t).1 (takeS st n t).2.1 (takeS st n t).2.2.1 v' ∧ (3 ≤ (takeS st n t).1 → GOwn 50 2 pV w' B v' (takeS st n t).2.2.2))

theorem word_no (t : List UInt8) (h : t.contains 58 = false) (k : Nat) (hk : k ≤ 4) : wordOf t = [] ∧ wfl k (wordOf t) ≠ 0 := by
  have e : wordOf t = [] := by unfold wordOf; rw [if_neg (by rw [h]; decide)]
  refine ⟨e, ?_⟩
  rw [e]
  have : k = 0 ∨ k = 1 ∨ k = 2 ∨ k = 3 ∨ k = 4 := by omega
  rcases this with rfl | rfl | rfl | rfl | rfl <;> decide
theorem word_yes (t : List UInt8) (h : t.contains 58 = true) : wordOf t = cutA t := by
  unfold wordOf cutA
  rw [h, if_pos rfl, if_pos rfl]
theorem skip_len (t : List UInt8) : (skipS t).length ≤ t.length := (List.dropWhile_sublist _).length_le
theorem rest_len (t : List UInt8) : (restOf t).length ≤ t.length := by
  unfold restOf
  have h := (List.dropWhile_sublist (l := t) (fun c => c != 58)).length_le
  rw [List.length_tail]
  omega
theorem word_len (t : List UInt8) : (wordOf t).length ≤ t.length := by
  unfold wordOf
  split
  · exact (List.takeWhile_sublist _).length_le
  · exact Nat.zero_le _

set_option maxHeartbeats 4000000 in
theorem take_any (rb B : Nat) (v : Value) (st : St) (n : Nat) (t : List UInt8) (w : World) (hk : st.1 ≤ 4) (hbox : RB w rb st.1 st.2.1 st.2.2.1 v) (ht : t.length ≤ 4194304) (hW : WTab w) (hT : ChgTab w)
    (hO : 3 ≤ st.1 → GOwn 50 2 pV w B v st.2.2.2 ∧ st.2.2.2.length ≤ 4194304) (hB : B ≤ w.heap.size) :
    Calls Tryz.prog 24 #[.pointer (some ⟨rb, 0, none⟩), .agg #[.int .i64 (n : Int), .string (S t)]] w fun e w' => e = .returned (.int .i64 (takeF st t : Nat)) ∧ TkQ rb B v st n t w w' := by
  obtain ⟨k, ln, nm, ps⟩ := st
  dsimp only at hk hbox hO
  have hCt : ∀ W, Hid (Calls Tryz.prog 36 #[.string (S t), .string ⟨#[58]⟩] W fun e w' => e = .returned (.tuple #[.string (S (cutA t)), .string (S (restOf t)), .bool (t.contains 58)]) ∧ Below W.heap.size W w') := fun W => by
    have := cut_any (S t) (by rw [S_size]; omega) W
    rw [S_l] at this
    exact this
  have hWf : ∀ W, Below w.heap.size w W → Hid (Calls Tryz.prog 37 #[.string (S (wordOf t)), .int .i64 (k : Int)] W fun e w' => e = .returned (.int .i64 (wfl k (wordOf t) : Nat)) ∧ Below W.heap.size W w') := fun W hb => by
    have := wfault_any (S (wordOf t)) k hk W (by rw [S_size]; have := word_len t; omega) (hT.below hb)
    rw [S_l] at this
    exact this
  have hVl : ∀ W, Below w.heap.size w W → Hid (Calls Tryz.prog 38 #[.string (S (restOf t))] W fun e w' => e = .returned (.tuple #[.string (S (valOf (restOf t)).1), .int .i64 ((valOf (restOf t)).2 : Nat)]) ∧ Below W.heap.size W w') := fun W hb => by
    have := readValue_any (S (restOf t)) W (by rw [S_size]; have := rest_len t; omega) (hW.below hb)
    rw [S_l] at this
    exact this
  have hSk : ∀ W, Hid (Calls Tryz.prog 39 #[.string (S (restOf t))] W fun e w' => e = .returned (.string (S (skipS (restOf t)))) ∧ W = w') := fun W => by
    have := skip_any (S (restOf t)) W
    rw [S_l] at this
    exact this
  have hw0 : Below w.heap.size w (w.alloc (.cells #[.int .i64 (n : Int), .string (S t)] 67)) := (Below.refl _ _).alloc (Nat.le_refl _) _
  have hL0 : (w.alloc (.cells #[.int .i64 (n : Int), .string (S t)] 67)).heap[w.heap.size]? = some (.cells #[.int .i64 (n : Int), .string (S t)] 67 (0, 0)) := heap_alloc_new _ _
  have hrl : rb < w.heap.size := (Array.getElem?_eq_some_iff.1 hbox).1
  cases hc : t.contains 58 with
  | false =>
    obtain ⟨e1, e2⟩ := word_no t hc k hk
    have hF : takeF (k, ln, nm, ps) t = wfl k (wordOf t) := by unfold takeF; rw [if_pos e2]
    have hfin : Hid (∀ w', Below w.heap.size w w' → TkQ rb B v (k, ln, nm, ps) n t w w') := fun w' hb => ⟨Fr.of_below hb, fun h => absurd (hF ▸ h) e2⟩
    rw [hF]
    rw [hc] at hCt
    have e2' : (((wfl k (wordOf t) : Nat) : Int) != 0) = true := by simp only [bne_iff_ne, ne_eq]; omega
    rw [e1, show S ([] : List UInt8) = (⟨#[]⟩ : ByteArray) from rfl] at hWf
    rw [e1] at e2' ⊢
    have hbx : Hid (RB w rb k ln nm v) := hbox
    have hw0' : Hid (Below w.heap.size w (w.alloc (.cells #[.int .i64 (n : Int), .string (S t)] 67))) := hw0
    clear hVl hSk hL0 hc e1 e2 hF hW hT hO hbox hw0 ht
    go_enter Tryz.func24, Tryz.ntmps24
    go_wp2_with (first
      | (go_at_call 36; refine (hCt _).out.mono ?_; rintro e w1 ⟨rfl, hb1⟩; have H1 : Hid (Below w.heap.size w w1) := hw0'.out.trans (hb1.mono hw0'.out.size); have c0 := (hbx.out.below H1.out).c0.1; clear hb1)
      | (go_at_call 37; refine (hWf _ H1.out).out.mono ?_; rintro e w2 ⟨rfl, hb2⟩; have H2 : Hid (Below w.heap.size w w2) := H1.out.trans (hb2.mono H1.out.size); clear hb2))
    go_ret
    exact ⟨rfl, hfin.out _ H2.out⟩
  | true =>
    rw [hc, ← word_yes t hc] at hCt
    have hbx : Hid (RB w rb k ln nm v) := hbox
    have hw0' : Hid (Below w.heap.size w (w.alloc (.cells #[.int .i64 (n : Int), .string (S t)] 67))) := hw0
    by_cases hw : wfl k (wordOf t) = 0
    · have hWf0 : ∀ W, Below w.heap.size w W → Hid (Calls Tryz.prog 37 #[.string (S (wordOf t)), .int .i64 (k : Int)] W fun e w' => e = .returned (.int .i64 0) ∧ Below W.heap.size W w') := fun W hb => by
        have := hWf W hb
        rw [hw] at this
        exact this
      have hF0 : takeF (k, ln, nm, ps) t = if k = 0 then (if skipS (restOf t) = [49] then 0 else 72) else if k ≤ 2 then (if (valOf (restOf t)).2 = 0 then 0 else 74) else (valOf (restOf t)).2 := by
        unfold takeF
        rw [if_neg (by simp [hw])]
      clear hWf
      have hWf := hWf0
      clear hWf0
      by_cases h0 : k = 0
      · subst h0
        rw [if_pos rfl] at hF0
        have hx : ((S (skipS (restOf t))).toList == [49]) = decide (skipS (restOf t) = [49]) := by rw [Lib.toList_data, S_l, Bool.eq_iff_iff, beq_iff_eq, decide_eq_true_iff]
        by_cases h1 : skipS (restOf t) = [49]
        · rw [if_pos h1] at hF0
          rw [decide_eq_true h1] at hx
          have hfin : Hid (∀ w3, Below w.heap.size w w3 → RB w3 rb 0 ln nm v → TkQ rb B v (0, ln, nm, ps) n t w (w3.setCell ⟨rb, 0, none⟩ (.int .i64 1))) := fun w3 hb hr => ⟨(Fr.of_below hb).set 0 _, fun _ => ⟨v, hr.s0 1, fun h => by simp [takeS] at h⟩⟩
          rw [hF0]
          generalize (valOf (restOf t)).1 = v1 at *
          generalize (valOf (restOf t)).2 = v2 at *
          generalize S (skipS (restOf t)) = sk at *
          clear hL0 hc hF0 hW hT hO hbox hw0 ht h1
          go_enter Tryz.func24, Tryz.ntmps24
          go_wp2_with (first
            | (go_at_call 36; refine (hCt _).out.mono ?_; rintro e w1 ⟨rfl, hb1⟩; have H1 : Hid (Below w.heap.size w w1) := hw0'.out.trans (hb1.mono hw0'.out.size); have c0 := (hbx.out.below H1.out).c0.1; clear hb1)
            | (go_at_call 37; refine (hWf _ H1.out).out.mono ?_; rintro e w2 ⟨rfl, hb2⟩; have H2 : Hid (Below w.heap.size w w2) := H1.out.trans (hb2.mono H1.out.size); clear hb2)
            | (go_at_call 38; refine (hVl _ H2.out).out.mono ?_; rintro e w3 ⟨rfl, hb3⟩; have H3 : Hid (Below w.heap.size w w3) := H2.out.trans (hb3.mono H2.out.size); have r3' : Hid (RB w3 rb _ ln nm _) := hbx.out.below H3.out; have d0 := r3'.out.c0.1; have f0 := r3'.out.c0.2; have d1 := r3'.out.c1.1; have f1 := r3'.out.c1.2; have d2 := r3'.out.c2.1; have f2 := r3'.out.c2.2; have d3 := r3'.out.c3.1; have f3 := r3'.out.c3.2; clear hb3)
            | (go_at_call 39; refine (hSk _).out.mono ?_; rintro e w4 ⟨rfl, rfl⟩))
          go_ret
          exact ⟨rfl, hfin.out _ H3.out r3'.out⟩
        · rw [if_neg h1] at hF0
          rw [decide_eq_false h1] at hx
          have hfin : Hid (∀ w3, Below w.heap.size w w3 → TkQ rb B v (0, ln, nm, ps) n t w w3) := fun w3 hb => ⟨Fr.of_below hb, fun h => by rw [hF0] at h; cases h⟩
          rw [hF0]
          generalize (valOf (restOf t)).1 = v1 at *
          generalize (valOf (restOf t)).2 = v2 at *
          generalize S (skipS (restOf t)) = sk at *
          clear hL0 hc hF0 hW hT hO hbox hw0 ht h1
          go_enter Tryz.func24, Tryz.ntmps24
          go_wp2_with (first
            | (go_at_call 36; refine (hCt _).out.mono ?_; rintro e w1 ⟨rfl, hb1⟩; have H1 : Hid (Below w.heap.size w w1) := hw0'.out.trans (hb1.mono hw0'.out.size); have c0 := (hbx.out.below H1.out).c0.1; clear hb1)
            | (go_at_call 37; refine (hWf _ H1.out).out.mono ?_; rintro e w2 ⟨rfl, hb2⟩; have H2 : Hid (Below w.heap.size w w2) := H1.out.trans (hb2.mono H1.out.size); clear hb2)
            | (go_at_call 38; refine (hVl _ H2.out).out.mono ?_; rintro e w3 ⟨rfl, hb3⟩; have H3 : Hid (Below w.heap.size w w3) := H2.out.trans (hb3.mono H2.out.size); have r3' : Hid (RB w3 rb _ ln nm _) := hbx.out.below H3.out; have d0 := r3'.out.c0.1; have f0 := r3'.out.c0.2; have d1 := r3'.out.c1.1; have f1 := r3'.out.c1.2; have d2 := r3'.out.c2.1; have f2 := r3'.out.c2.2; have d3 := r3'.out.c3.1; have f3 := r3'.out.c3.2; clear hb3)
            | (go_at_call 39; refine (hSk _).out.mono ?_; rintro e w4 ⟨rfl, rfl⟩))
          go_ret
          exact ⟨rfl, hfin.out _ H3.out⟩
      · rw [if_neg h0] at hF0
        by_cases h2 : k ≤ 2
        · rw [if_pos h2] at hF0
          have hk12 : k = 1 ∨ k = 2 := by omega
          have hTS : takeS (k, ln, nm, ps) n t = (3, n, (valOf (restOf t)).1, []) := by unfold takeS; rw [if_neg h0, if_pos h2]
          by_cases hv : (valOf (restOf t)).2 = 0
          · rw [if_pos hv] at hF0
            have hLn : Hid (∀ w2, Below w.heap.size w w2 → True) := fun _ _ => trivial
            have hfin : Hid (∀ w3, Below w.heap.size w w3 → RB w3 rb k ln nm v → TkQ rb B v (k, ln, nm, ps) n t w ((((w3.setCell ⟨rb, 1, none⟩ (.int .i64 (n : Int))).setCell ⟨rb, 2, none⟩ (.string (S (valOf (restOf t)).1))).setCell ⟨rb, 3, none⟩ (.slice none 0 0)).setCell ⟨rb, 0, none⟩ (.int .i64 3))) := fun w3 hb hr => by
              refine ⟨((((Fr.of_below hb).set 1 _).set 2 _).set 3 _).set 0 _, fun _ => ⟨.slice none 0 0, ?_, fun _ => ?_⟩⟩
              · rw [hTS]
                exact (((hr.s1 n).s2 _).s3 _).s0 3
              · rw [hTS]
                exact GOwn.nil _ _ _ _ _
            rw [hF0]
            rw [hv] at hVl
            have hVl' : ∀ W, Below w.heap.size w W → Hid (Calls Tryz.prog 38 #[.string (S (restOf t))] W fun e w' => e = .returned (.tuple #[.string (S (valOf (restOf t)).1), .int .i64 0]) ∧ Below W.heap.size W w') := hVl
            clear hVl
            have hVl := hVl'
            clear hVl'
            generalize (valOf (restOf t)).1 = v1 at *
            clear hSk hc hF0 hW hT hO hbox hw0 ht hTS hv hk hB hLn
            have hL0' : Hid ((w.alloc (.cells #[.int .i64 (n : Int), .string (S t)] 67)).heap[w.heap.size]? = some (.cells #[.int .i64 (n : Int), .string (S t)] 67 (0, 0))) := hL0
            clear hL0
            rcases hk12 with rfl | rfl
            all_goals
              go_enter Tryz.func24, Tryz.ntmps24
              go_wp2_with (first
            | (go_at_call 36; refine (hCt _).out.mono ?_; rintro e w1 ⟨rfl, hb1⟩; have H1 : Hid (Below w.heap.size w w1) := hw0'.out.trans (hb1.mono hw0'.out.size); have c0 := (hbx.out.below H1.out).c0.1; have L1 : Hid (w1.heap[w.heap.size]? = some (.cells #[.int .i64 (n : Int), .string (S t)] 67 (0, 0))) := (hb1.block _ (by simp)).trans hL0'.out; clear hb1)
            | (go_at_call 37; refine (hWf _ H1.out).out.mono ?_; rintro e w2 ⟨rfl, hb2⟩; have H2 : Hid (Below w.heap.size w w2) := H1.out.trans (hb2.mono H1.out.size); have L2 : Hid (w2.heap[w.heap.size]? = some (.cells #[.int .i64 (n : Int), .string (S t)] 67 (0, 0))) := (hb2.block _ (Array.getElem?_eq_some_iff.1 L1.out).1).trans L1.out; clear hb2)
            | (go_at_call 38; refine (hVl _ H2.out).out.mono ?_; rintro e w3 ⟨rfl, hb3⟩; have H3 : Hid (Below w.heap.size w w3) := H2.out.trans (hb3.mono H2.out.size); have r3' : Hid (RB w3 rb _ ln nm _) := hbx.out.below H3.out; have d0 := r3'.out.c0.1; have f0 := r3'.out.c0.2; have d1 := r3'.out.c1.1; have f1 := r3'.out.c1.2; have d2 := r3'.out.c2.1; have f2 := r3'.out.c2.2; have d3 := r3'.out.c3.1; have f3 := r3'.out.c3.2; have L3 : w3.cell? ⟨w.heap.size, 0, none⟩ = some (.int .i64 (n : Int)) := (by rw [cell_of_row _ _ _ _ _ _ ((hb3.block _ (Array.getElem?_eq_some_iff.1 L2.out).1).trans L2.out)]; rfl); clear hb3))
              go_ret
              exact ⟨rfl, hfin.out _ H3.out r3'.out⟩
          · rw [if_neg hv] at hF0
            have hfin : Hid (∀ w3, Below w.heap.size w w3 → TkQ rb B v (k, ln, nm, ps) n t w w3) := fun w3 hb => ⟨Fr.of_below hb, fun h => by rw [hF0] at h; cases h⟩
            rw [hF0]
            have hv' : ((((valOf (restOf t)).2 : Nat) : Int) != 0) = true := by simp only [bne_iff_ne, ne_eq]; omega
            generalize (valOf (restOf t)).1 = v1 at *
            generalize (valOf (restOf t)).2 = v2 at *
            clear hL0 hSk hc hF0 hW hT hO hbox hw0 ht hTS hv hk hB
            rcases hk12 with rfl | rfl
            all_goals
              go_enter Tryz.func24, Tryz.ntmps24
              go_wp2_with (first
            | (go_at_call 36; refine (hCt _).out.mono ?_; rintro e w1 ⟨rfl, hb1⟩; have H1 : Hid (Below w.heap.size w w1) := hw0'.out.trans (hb1.mono hw0'.out.size); have c0 := (hbx.out.below H1.out).c0.1; clear hb1)
            | (go_at_call 37; refine (hWf _ H1.out).out.mono ?_; rintro e w2 ⟨rfl, hb2⟩; have H2 : Hid (Below w.heap.size w w2) := H1.out.trans (hb2.mono H1.out.size); clear hb2)
            | (go_at_call 38; refine (hVl _ H2.out).out.mono ?_; rintro e w3 ⟨rfl, hb3⟩; have H3 : Hid (Below w.heap.size w w3) := H2.out.trans (hb3.mono H2.out.size); have r3' : Hid (RB w3 rb _ ln nm _) := hbx.out.below H3.out; have d0 := r3'.out.c0.1; have f0 := r3'.out.c0.2; have d1 := r3'.out.c1.1; have f1 := r3'.out.c1.2; have d2 := r3'.out.c2.1; have f2 := r3'.out.c2.2; have d3 := r3'.out.c3.1; have f3 := r3'.out.c3.2; clear hb3))
              go_ret
              exact ⟨rfl, hfin.out _ H3.out⟩
        · rw [if_neg h2] at hF0
          have hk34 : k = 3 ∨ k = 4 := by omega
          have hTS : takeS (k, ln, nm, ps) n t = (4, ln, nm, ps ++ [(wordOf t, (valOf (restOf t)).1)]) := by unfold takeS; rw [if_neg h0, if_neg h2]
          by_cases hv : (valOf (restOf t)).2 = 0
          · obtain ⟨hOw, hPl⟩ := hO (by omega)
            have hap : Hid (∀ w3, Below w.heap.size w w3 → RB w3 rb k ln nm v → ∃ a4 m4 c4 w4, (Builtin.append_ #[32, 32] 32 #[v, .slice (some ⟨w3.heap.size, 0, none⟩) 1 1]).run Tryz.prog (w3.alloc (.cells #[.string (S (wordOf t)), .string (S (valOf (restOf t)).1)] 50)) = .ok (.slice a4 m4 c4) w4 ∧ RB w4 rb k ln nm v ∧ TkQ rb B v (k, ln, nm, ps) n t w ((w4.setCell ⟨rb, 3, none⟩ (.slice a4 m4 c4)).setCell ⟨rb, 0, none⟩ (.int .i64 4))) := fun w3 hb hr => by
              have ba : Below w3.heap.size w3 (w3.alloc (.cells #[.string (S (wordOf t)), .string (S (valOf (restOf t)).1)] 50)) := (Below.refl _ _).alloc (Nat.le_refl _) _
              obtain ⟨v', w4, e4, o4, g4, b4⟩ := append_gen KDp (w3.alloc (.cells #[.string (S (wordOf t)), .string (S (valOf (restOf t)).1)] 50)) B v ps [(wordOf t, (valOf (restOf t)).1)] (some ⟨w3.heap.size, 0, none⟩) 1 1 ((hOw.below hb).below ba) (GRow.one pV w3 50 (wordOf t, (valOf (restOf t)).1)) rfl (by have := hb.size; have := ba.size; omega) (by simp; omega)
              have hne : v.ownBlock ≠ some rb := fun e => by
                obtain ⟨cs, hcs⟩ := owns_typ (show w.ownsRow B 50 2 v ps.length (ps.flatMap pV) from hOw) e
                have h1 : w.heap[rb]? = some (.cells #[.int .i64 (k : Int), .int .i64 (ln : Int), .string (S nm), v] 65 (0, 0)) := hbox
                rw [h1] at hcs
                injection hcs with hcs
                injection hcs with _ hcs _
                revert hcs
                decide
              have hr' := hr.below ba
              have hr4 : RB w4 rb k ln nm v := (g4.block rb (Array.getElem?_eq_some_iff.1 hr').1 (fun e => hne e.symm)).trans hr'
              obtain ⟨a4, c4, hv4, _, _, _⟩ := o4.row pV_len
              subst hv4
              refine ⟨a4, _, c4, w4, e4, hr4, (by unfold pvw; rw [if_pos (show 3 ≤ k by omega)]; exact ((Fr.grown ((Fr.of_below hb).trans0 ba) g4).set 3 _).set 0 _), fun _ => ⟨.slice a4 (ps ++ [(wordOf t, (valOf (restOf t)).1)]).length c4, ?_, fun _ => ?_⟩⟩
              · rw [hTS]
                exact (hr4.s3 _).s0 4
              · rw [hTS]
                have hne' : Value.ownBlock (.slice a4 (ps ++ [(wordOf t, (valOf (restOf t)).1)]).length c4) ≠ some rb := fun e => by
                  obtain ⟨cs, hcs⟩ := owns_typ (show w4.ownsRow B 50 2 _ _ _ from o4) e
                  have h1 : w4.heap[rb]? = some (.cells #[.int .i64 (k : Int), .int .i64 (ln : Int), .string (S nm), v] 65 (0, 0)) := hr4
                  rw [h1] at hcs
                  injection hcs with hcs
                  injection hcs with _ hcs _
                  revert hcs
                  decide
                refine Lr.owns_same o4 (fun g hg => ?_)
                have hgr : g ≠ rb := fun e => hne' (by rw [hg, e])
                rw [Below.heap_setCell _ _ _ _ hgr, Below.heap_setCell _ _ _ _ hgr]
            rw [hF0, hv]
            rw [hv] at hVl
            have hVl' : ∀ W, Below w.heap.size w W → Hid (Calls Tryz.prog 38 #[.string (S (restOf t))] W fun e w' => e = .returned (.tuple #[.string (S (valOf (restOf t)).1), .int .i64 0]) ∧ Below W.heap.size W w') := hVl
            clear hVl
            have hVl := hVl'
            clear hVl'
            have hsl : ∃ a m c, v = .slice a m c := by
              rcases Lr.owns_form hOw with ⟨rfl, _⟩ | ⟨g, cap, rfl, _⟩
              · exact ⟨_, _, _, rfl⟩
              · exact ⟨_, _, _, rfl⟩
            obtain ⟨va, vm, vc, rfl⟩ := hsl
            generalize (valOf (restOf t)).1 = v1 at *
            clear hSk hc hF0 hW hT hO hbox hw0 ht hTS hv hk hB hOw hPl hL0
            rcases hk34 with rfl | rfl
            all_goals
              go_enter Tryz.func24, Tryz.ntmps24
              go_wp2_with (first
            | (go_at_call 36; refine (hCt _).out.mono ?_; rintro e w1 ⟨rfl, hb1⟩; have H1 : Hid (Below w.heap.size w w1) := hw0'.out.trans (hb1.mono hw0'.out.size); have c0 := (hbx.out.below H1.out).c0.1; clear hb1)
            | (go_at_call 37; refine (hWf _ H1.out).out.mono ?_; rintro e w2 ⟨rfl, hb2⟩; have H2 : Hid (Below w.heap.size w w2) := H1.out.trans (hb2.mono H1.out.size); clear hb2)
            | (go_at_call 38; refine (hVl _ H2.out).out.mono ?_; rintro e w3 ⟨rfl, hb3⟩; have H3 : Hid (Below w.heap.size w w3) := H2.out.trans (hb3.mono H2.out.size); have r3' : Hid (RB w3 rb _ ln nm _) := hbx.out.below H3.out; have d0 := r3'.out.c0.1; have f0 := r3'.out.c0.2; have d1 := r3'.out.c1.1; have f1 := r3'.out.c1.2; have d2 := r3'.out.c2.1; have f2 := r3'.out.c2.2; have d3 := r3'.out.c3.1; have f3 := r3'.out.c3.2; obtain ⟨a4, m4, c4, w4, e4, r4, q4⟩ := hap.out w3 H3.out r3'.out; have g3 := r4.c3.1; have k3 := r4.c3.2; have g0 := r4.c0.1; have k0 := r4.c0.2; have hq5 : Hid _ := q4; clear q4; clear hb3)
            | (at_builtin; refine Lib.wpList_append_run _ rfl _ _ _ _ rfl _ _ rfl rfl _ _ e4 ?_; clear e4))
              go_ret
              exact ⟨rfl, hq5.out⟩
          · have hfin : Hid (∀ w3, Below w.heap.size w w3 → TkQ rb B v (k, ln, nm, ps) n t w w3) := fun w3 hb => ⟨Fr.of_below hb, fun h => by rw [hF0] at h; exact absurd h hv⟩
            rw [hF0]
            have hv' : ((((valOf (restOf t)).2 : Nat) : Int) != 0) = true := by simp only [bne_iff_ne, ne_eq]; omega
            generalize (valOf (restOf t)).1 = v1 at *
            generalize (valOf (restOf t)).2 = v2 at *
            clear hL0 hSk hc hF0 hW hT hO hbox hw0 ht hTS hv hk hB
            rcases hk34 with rfl | rfl
            all_goals
              go_enter Tryz.func24, Tryz.ntmps24
              go_wp2_with (first
            | (go_at_call 36; refine (hCt _).out.mono ?_; rintro e w1 ⟨rfl, hb1⟩; have H1 : Hid (Below w.heap.size w w1) := hw0'.out.trans (hb1.mono hw0'.out.size); have c0 := (hbx.out.below H1.out).c0.1; clear hb1)
            | (go_at_call 37; refine (hWf _ H1.out).out.mono ?_; rintro e w2 ⟨rfl, hb2⟩; have H2 : Hid (Below w.heap.size w w2) := H1.out.trans (hb2.mono H1.out.size); clear hb2)
            | (go_at_call 38; refine (hVl _ H2.out).out.mono ?_; rintro e w3 ⟨rfl, hb3⟩; have H3 : Hid (Below w.heap.size w w3) := H2.out.trans (hb3.mono H2.out.size); have r3' : Hid (RB w3 rb _ ln nm _) := hbx.out.below H3.out; have d0 := r3'.out.c0.1; have f0 := r3'.out.c0.2; have d1 := r3'.out.c1.1; have f1 := r3'.out.c1.2; have d2 := r3'.out.c2.1; have f2 := r3'.out.c2.2; have d3 := r3'.out.c3.1; have f3 := r3'.out.c3.2; clear hb3))
              go_ret
              exact ⟨rfl, hfin.out _ H3.out⟩
    · have hF : takeF (k, ln, nm, ps) t = wfl k (wordOf t) := by unfold takeF; rw [if_pos hw]
      have hfin : Hid (∀ w', Below w.heap.size w w' → TkQ rb B v (k, ln, nm, ps) n t w w') := fun w' hb => ⟨Fr.of_below hb, fun h => absurd (hF ▸ h) hw⟩
      rw [hF]
      have e2' : (((wfl k (wordOf t) : Nat) : Int) != 0) = true := by simp only [bne_iff_ne, ne_eq]; omega
      generalize wfl k (wordOf t) = wk at *
      clear hVl hSk hL0 hc hw hF hW hT hO hbox hw0 ht
      go_enter Tryz.func24, Tryz.ntmps24
      go_wp2_with (first
        | (go_at_call 36; refine (hCt _).out.mono ?_; rintro e w1 ⟨rfl, hb1⟩; have H1 : Hid (Below w.heap.size w w1) := hw0'.out.trans (hb1.mono hw0'.out.size); have c0 := (hbx.out.below H1.out).c0.1; clear hb1)
        | (go_at_call 37; refine (hWf _ H1.out).out.mono ?_; rintro e w2 ⟨rfl, hb2⟩; have H2 : Hid (Below w.heap.size w w2) := H1.out.trans (hb2.mono H1.out.size); clear hb2))
      go_ret
      exact ⟨rfl, hfin.out _ H2.out⟩
end Rd
end Go.Proofs.YtoomoicjoockjaaGreatDoor
