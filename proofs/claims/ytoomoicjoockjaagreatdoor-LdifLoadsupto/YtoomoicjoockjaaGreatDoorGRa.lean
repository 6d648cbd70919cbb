import Derived.Test.YtoomoicjoockjaaGreatDoorGLrA
import Derived.Test.YtoomoicjoockjaaGreatDoorGBb
import Derived.Test.YtoomoicjoockjaaGreatDoorRfA
import Derived.Test.YtoomoicjoockjaaGreatDoorGBu
import Derived.Test.YtoomoicjoockjaaGreatDoorAllSafe
import Derived.Test.YtoomoicjoockjaaGreatDoorGM
namespace Go.Proofs.YtoomoicjoockjaaGreatDoor
namespace Lr
open Go.RowKit
open TextMath (b64 fold)
set_option linter.unusedVariables false
set_option maxRecDepth 100000

set_option maxHeartbeats 1000000 in
theorem rIsDesc_any (s : ByteArray) (w : World) (hs : s.size ≤ 4194304) :
    Calls Tryz.prog 45 #[.string s] w fun e w' => e = .returned (.bool (okD s.data.toList)) ∧ Below w.heap.size w w' := by
  have hD : Hid (Calls Tryz.prog 58 #[.string s] w fun e w' => e = .returned (.bool (dacc (drun 0 (fold s.data.toList)))) ∧ Below w.heap.size w w') := by
    have := isDesc_any s w hs
    rw [dsc_dfaB] at this
    exact this
  have hF : Hid (∀ W, Calls Tryz.prog 28 #[.string s] W fun e w' => e = .returned (.string (S (fold s.data.toList))) ∧ Below W.heap.size W w') := fun W => rFold_any s W (by omega)
  have hdn : ((S (fold s.data.toList)).toList == [100, 110]) = (fold s.data.toList == dnB) := by rw [Lib.toList_data, S_l]; rfl
  unfold okD
  generalize dacc (drun 0 (fold s.data.toList)) = x at *
  generalize (fold s.data.toList == dnB) = y at *
  generalize S (fold s.data.toList) = f at *
  cases x with
  | false =>
    go_enter Tryz.func45, Tryz.ntmps45
    go_wp2_with (go_at_call 58; refine hD.out.mono ?_; rintro e w1 ⟨rfl, hb1⟩)
    go_ret
    exact ⟨rfl, hb1⟩
  | true =>
    cases y <;>
    · go_enter Tryz.func45, Tryz.ntmps45
      go_wp2_with (first | (go_at_call 58; refine hD.out.mono ?_; rintro e w1 ⟨rfl, hb1⟩) | (go_at_call 28; refine (hF.out _).mono ?_; rintro e w2 ⟨rfl, hb2⟩))
      go_ret
      exact ⟨by first | rfl | simp_all, hb1.trans (hb2.mono hb1.size)⟩
set_option maxHeartbeats 1000000 in
theorem rIsChange_any (s : ByteArray) (w : World) (hs : s.size ≤ 4194304) :
    Calls Tryz.prog 46 #[.string s] w fun e w' => e = .returned (.bool (chg s.data.toList)) ∧ Below w.heap.size w w' := by
  have hF : Hid (Calls Tryz.prog 28 #[.string s] w fun e w' => e = .returned (.string (S (fold s.data.toList))) ∧ Below w.heap.size w w') := rFold_any s w (by omega)
  have h1 : ((S (fold s.data.toList)).toList == [99, 104, 97, 110, 103, 101, 116, 121, 112, 101]) = (fold s.data.toList == chB) := by rw [Lib.toList_data, S_l]; rfl
  have h2 : ((S (fold s.data.toList)).toList == [99, 111, 110, 116, 114, 111, 108]) = (fold s.data.toList == coB) := by rw [Lib.toList_data, S_l]; rfl
  unfold chg
  generalize (fold s.data.toList == chB) = x at *
  generalize (fold s.data.toList == coB) = y at *
  generalize S (fold s.data.toList) = f at *
  cases x <;> cases y <;>
  · go_enter Tryz.func46, Tryz.ntmps46
    go_wp2_with (go_at_call 28; refine hF.out.mono ?_; rintro e w1 ⟨rfl, hb1⟩)
    go_ret
    exact ⟨by first | rfl | simp_all, hb1⟩
end Lr
end Go.Proofs.YtoomoicjoockjaaGreatDoor

namespace Go.Proofs.YtoomoicjoockjaaGreatDoor
namespace Rd
open Go.RowKit
open TextMath (fold unb)
open LdMath
open Lr (PR RC pf chg okD dnB rIsDesc_any rIsChange_any)
set_option linter.unusedVariables false
set_option maxRecDepth 100000

theorem skipE_at (l : List UInt8) : ∀ (i : Nat), (∀ j, j < i → l[j]? = some 32) → skipS l = skipS (l.drop i) := by
  intro i
  induction i with
  | zero => intro _; rfl
  | succ i ih =>
    intro h
    rw [ih (fun j hj => h j (by omega))]
    have h1 := h i (by omega)
    obtain ⟨hi, he⟩ := List.getElem?_eq_some_iff.1 h1
    rw [List.drop_eq_getElem_cons hi, he]
    rfl
theorem skipE (l : List UInt8) (i : Nat) (h : ∀ j, j < i → l[j]? = some 32) (he : ¬ l[i]? = some 32) : skipS l = l.drop i := by
  rw [skipE_at l i h]
  cases hd : l.drop i with
  | nil => rfl
  | cons c r =>
    have h1 : l[i]? = some c := by rw [← List.head?_drop, hd]; rfl
    unfold skipS
    rw [List.dropWhile_cons, if_neg (by
      intro e
      have : c = 32 := by simpa using e
      rw [this] at h1
      exact he h1)]
set_option maxHeartbeats 2000000 in
theorem unfilled_any (s : ByteArray) (hs : s.size ≤ 1099511627776) (w : World) :
    Calls Tryz.prog 41 #[.string s] w fun e w' => e = .returned (.string (S (skipS s.data.toList))) ∧ w = w' := by
  obtain ⟨R, hR⟩ : ∃ R, S (skipS s.data.toList) = R := ⟨_, rfl⟩
  have hR' : Hid (S (skipS s.data.toList) = R) := hR
  have sz : (s.size : Int) ≤ 1099511627776 := by omega
  rw [hR]
  clear hR
  go_enter Tryz.func41, Tryz.ntmps41
  go_wp2_with fail
  go_loopw [3] (fun iv wr => ∃ i : Nat, i ≤ s.size ∧ iv = .int .i64 (i : Int) ∧ Hid (∀ j, j < i → s.data.toList[j]? = some 32) ∧ w = wr) (fun iv _ => s.size - (intOf iv).toNat)
  case atStart => exact ⟨0, Nat.zero_le _, rfl, fun j hj => absurd hj (Nat.not_lt_zero _), rfl⟩
  case round =>
    obtain ⟨i, hi, rfl, hQ, rfl⟩ := hrel
    have i0 : (0 : Int) ≤ (i : Int) := Int.natCast_nonneg _
    have i1 : (i : Int) ≤ 1099511627776 := by omega
    have i2 : (i : Int) ≤ (s.size : Int) := Int.ofNat_le.2 hi
    by_cases hlt : i < s.size
    · have k1 : (i : Int) < (s.size : Int) := Int.ofNat_lt.2 hlt
      obtain ⟨z, hz⟩ : ∃ z : Int, (s[i].toNat : Int) = z := ⟨_, rfl⟩
      by_cases h32 : s[i] = 32
      · have hb : (z == 32) = true := by rw [← hz, h32]; rfl
        have hn : Hid (∀ j, j < i + 1 → s.data.toList[j]? = some 32) := fun j hj => by
          by_cases hji : j < i
          · exact hQ.out j hji
          · have e : j = i := by omega
            subst e
            rw [List.getElem?_eq_getElem (by rw [size_l]; exact hlt)]
            exact congrArg some h32
        have hlt' : Hid (i < s.size) := hlt
        clear hQ h32 hi
        go_wp2_with fail
        go_roundw
        case rel => exact ⟨i + 1, hlt'.out, by simp, hn, trivial⟩
        case measure => have := hlt'.out; simp [intOf]; omega
      · have hb : (z == 32) = false := by
          rw [← hz, beq_eq_false_iff_ne]
          intro e
          exact h32 (UInt8.toNat_inj.1 (by show _ = 32; omega))
        have hfin : s.extract i s.size = R := by
          rw [← hR'.out]
          refine (S_eq _ _ ?_)
          rw [drop_l, skipE _ i hQ.out]
          intro e
          obtain ⟨h1, h2⟩ := List.getElem?_eq_some_iff.1 e
          exact h32 h2
        clear hQ h32 hi
        go_wp2_with fail
        go_ret
        exact ⟨rfl, rfl⟩
    · have k1 : ¬ (i : Int) < (s.size : Int) := by omega
      have hfin : s.extract i s.size = R := by
        rw [← hR'.out]
        refine (S_eq _ _ ?_)
        rw [drop_l, skipE _ i hQ.out]
        intro e
        obtain ⟨h1, h2⟩ := List.getElem?_eq_some_iff.1 e
        rw [size_l] at h1
        omega
      clear hQ hi hlt
      go_wp2_with fail
      go_ret
      exact ⟨rfl, rfl⟩
/-- What a value's text is, by number. -/
def wh (f : Nat) : Int := if f = 0 then 0 else if f = 77 then 2 else 1
theorem skipN_len (l : List UInt8) : (skipS l).length ≤ l.length := drop_len _ l
theorem toL_ne {s : ByteArray} (h : 0 < s.size) : (s.toList == []) = false := by
  rw [Lib.toList_data]
  have : s.data.toList ≠ [] := fun e => by have := size_l s; rw [e] at this; simp at this; omega
  simpa using this
set_option maxHeartbeats 2000000 in
theorem value_any (s : ByteArray) (hs : s.size ≤ 8388608) (w : World) :
    Calls Tryz.prog 29 #[.string s] w fun e w' => e = .returned (.tuple #[.string (S (valOf s.data.toList).1), .int .i64 (wh (valOf s.data.toList).2)]) ∧ Below w.heap.size w w' := by
  obtain ⟨l, hl⟩ : ∃ l, s.data.toList = l := ⟨_, rfl⟩
  have hll : l.length = s.size := by rw [← hl]; exact size_l s
  by_cases h0 : s.size = 0
  · have hln : l = [] := List.eq_nil_of_length_eq_zero (by omega)
    have hse : (s.toList == []) = true := by rw [Lib.toList_data, hl, hln]; rfl
    have hsn : s = S [] := S_eq _ _ (by rw [hl, hln])
    have hU : Hid (∀ W, Calls Tryz.prog 41 #[.string s] W fun e w' => e = .returned (.string s) ∧ W = w') := fun W => by
      have := unfilled_any s (by omega) W
      rw [hl, hln, show skipS [] = [] from rfl, ← hsn] at this
      exact this
    have hSf : Hid (∀ W, Calls Tryz.prog 43 #[.string s] W fun e w' => e = .returned (.bool true) ∧ w' = W) := fun W => by
      have := rSafe_any s W (by omega)
      rw [hl, hln, show safe [] = true from rfl] at this
      exact this
    have hv : Hid (valOf s.data.toList = ([], 0)) := by unfold Hid; rw [hl, hln]; rfl
    rw [hv.out]
    have e1 : wh 0 = 0 := rfl
    rw [e1, ← hsn]
    clear hl hln hll h0 hs hsn e1
    go_enter Tryz.func29, Tryz.ntmps29
    go_wp2_with (first
      | (go_at_call 41; refine (hU.out _).mono ?_; rintro e w1 ⟨rfl, rfl⟩)
      | (go_at_call 43; refine (hSf.out _).mono ?_; rintro e w2 ⟨rfl, rfl⟩))
    go_ret2
    exact ⟨rfl, Below.refl _ _⟩
  · have hpos : 0 < s.size := by omega
    have hse := toL_ne hpos
    have hlp : 0 < l.length := by omega
    have hhd : l.head? = some s[0] := by
      cases hcl : l with
      | nil => rw [hcl] at hlp; simp at hlp
      | cons c r =>
        have : s[0] = s.data.toList[0]'(by rw [size_l]; exact hpos) := rfl
        rw [this]
        simp only [hl, hcl]
        rfl
    obtain ⟨z, hz⟩ : ∃ z : Int, (s[0].toNat : Int) = z := ⟨_, rfl⟩
    have hzk : ∀ k : UInt8, (z == (k.toNat : Int)) = decide (s[0] = k) := fun k => by
      rw [← hz, Bool.eq_iff_iff, beq_iff_eq, decide_eq_true_iff]
      constructor
      · intro e; exact UInt8.toNat_inj.1 (by omega)
      · intro e; rw [e]
    have sp : (1 : Int) ≤ (s.size : Int) := by omega
    have sz : (s.size : Int) ≤ 8388608 := by omega
    by_cases h58 : s[0] = 58
    · have hb : (z == 58) = true := by have := hzk 58; rw [decide_eq_true h58] at this; exact this
      obtain ⟨T1, hT1⟩ : ∃ T1, s.extract 1 s.size = T1 := ⟨_, rfl⟩
      have hT1l : T1.data.toList = l.tail := by rw [← hT1, drop_l, hl]; simp
      have hT1s : T1.size ≤ 8388608 := by rw [← hT1, ByteArray.size_extract]; omega
      obtain ⟨T2, hT2⟩ : ∃ T2, S (skipS l.tail) = T2 := ⟨_, rfl⟩
      have hU : Hid (∀ W, Calls Tryz.prog 41 #[.string (s.extract 1 s.size)] W fun e w' => e = .returned (.string T2) ∧ W = w') := fun W => by
        rw [hT1]
        have := unfilled_any T1 (by omega) W
        rw [hT1l, hT2] at this
        exact this
      have hT2s : T2.size ≤ 16777216 := by
        rw [← hT2, S_size]
        have h1 := skipN_len l.tail
        rw [List.length_tail] at h1
        omega
      have hB : Hid (∀ W, Calls Tryz.prog 42 #[.string T2] W fun e w' => e = .returned (ubV T2.size (unb (skipS l.tail) 0)) ∧ Below W.heap.size W w') := fun W => by
        have := rUnbase64_any T2 W hT2s
        rw [← hT2, S_l] at this
        rw [← hT2]
        exact this
      rw [hl]
      cases hun : unb (skipS l.tail) 0 with
      | ok v =>
        have hv : valOf l = (v, 0) := by
          unfold valOf
          rw [hhd, h58, if_neg (by decide), if_pos rfl, hun]
        rw [hv]
        have hB' : Hid (∀ W, Calls Tryz.prog 42 #[.string T2] W fun e w' => e = .returned (.tuple #[.string (S v), .int .i64 0, .int .i64 (T2.size : Int)]) ∧ Below W.heap.size W w') := fun W => by
          have := hB.out W
          rw [hun] at this
          exact this
        dsimp only
        obtain ⟨V, hV⟩ : ∃ V, S v = V := ⟨_, rfl⟩
        rw [hV] at hB' ⊢
        have e1 : wh 0 = 0 := rfl
        rw [e1]
        clear hB hun hv hhd hzk h58 hl hll hT1 hT1l hT1s hT2 hT2s hV hlp h0 hs e1
        go_enter Tryz.func29, Tryz.ntmps29
        go_wp2_with (first
          | (go_at_call 41; refine (hU.out _).mono ?_; rintro e w1 ⟨rfl, rfl⟩)
          | (go_at_call 42; refine (hB'.out _).mono ?_; rintro e w2 ⟨rfl, hb2⟩))
        go_ret2
        exact ⟨rfl, hb2⟩
      | error k =>
        have hv : valOf l = ([], 76) := by
          unfold valOf
          rw [hhd, h58, if_neg (by decide), if_pos rfl, hun]
        rw [hv]
        have hB' : Hid (∀ W, Calls Tryz.prog 42 #[.string T2] W fun e w' => e = .returned (.tuple #[.string ⟨#[]⟩, .int .i64 12, .int .i64 (k : Int)]) ∧ Below W.heap.size W w') := fun W => by
          have := hB.out W
          rw [hun] at this
          exact this
        dsimp only
        have e1 : wh 76 = 1 := rfl
        rw [e1]
        clear hB hun hv hhd hzk h58 hl hll hT1 hT1l hT1s hT2 hT2s hlp h0 hs e1
        go_enter Tryz.func29, Tryz.ntmps29
        go_wp2_with (first
          | (go_at_call 41; refine (hU.out _).mono ?_; rintro e w1 ⟨rfl, rfl⟩)
          | (go_at_call 42; refine (hB'.out _).mono ?_; rintro e w2 ⟨rfl, hb2⟩))
        go_ret2
        exact ⟨rfl, hb2⟩
    · have hb : (z == 58) = false := by have := hzk 58; rw [decide_eq_false h58] at this; exact this
      by_cases h60 : s[0] = 60
      · have hb' : (z == 60) = true := by have := hzk 60; rw [decide_eq_true h60] at this; exact this
        have hv : valOf l = ([], 77) := by unfold valOf; rw [hhd, h60, if_pos rfl]
        rw [hl, hv]
        have e1 : wh 77 = 2 := rfl
        rw [e1]
        clear hv hhd hzk h58 h60 hl hll hlp h0 hs e1
        go_enter Tryz.func29, Tryz.ntmps29
        go_wp2_with fail
        go_ret2
        exact ⟨rfl, Below.refl _ _⟩
      · have hb' : (z == 60) = false := by have := hzk 60; rw [decide_eq_false h60] at this; exact this
        obtain ⟨T2, hT2⟩ : ∃ T2, S (skipS l) = T2 := ⟨_, rfl⟩
        have hT2s : T2.size ≤ 8388608 := by
          rw [← hT2, S_size]
          have h1 := skipN_len l
          omega
        have hU : Hid (∀ W, Calls Tryz.prog 41 #[.string s] W fun e w' => e = .returned (.string T2) ∧ W = w') := fun W => by
          have := unfilled_any s (by omega) W
          rw [hl, hT2] at this
          exact this
        have hSf : Hid (∀ W, Calls Tryz.prog 43 #[.string T2] W fun e w' => e = .returned (.bool (safe (skipS l))) ∧ w' = W) := fun W => by
          have := rSafe_any T2 W (by omega)
          rw [← hT2, S_l] at this
          rw [← hT2]
          exact this
        have hv : valOf l = if safe (skipS l) then (skipS l, 0) else ([], 76) := by
          unfold valOf
          rw [hhd, if_neg (fun e => h60 (Option.some.inj e)), if_neg (fun e => h58 (Option.some.inj e))]
        rw [hl, hv]
        cases hsf : safe (skipS l) with
        | true =>
          rw [hsf] at hSf
          rw [if_pos rfl]
          dsimp only
          rw [hT2]
          have e1 : wh 0 = 0 := rfl
          rw [e1]
          clear hv hhd hzk h58 h60 hl hll hlp h0 hs hT2 hT2s hsf e1
          go_enter Tryz.func29, Tryz.ntmps29
          go_wp2_with (first
            | (go_at_call 41; refine (hU.out _).mono ?_; rintro e w1 ⟨rfl, rfl⟩)
            | (go_at_call 43; refine (hSf.out _).mono ?_; rintro e w2 ⟨rfl, rfl⟩))
          go_ret2
          exact ⟨rfl, Below.refl _ _⟩
        | false =>
          rw [hsf] at hSf
          rw [if_neg (by decide)]
          dsimp only
          have e1 : wh 76 = 1 := rfl
          rw [e1]
          clear hv hhd hzk h58 h60 hl hll hlp h0 hs hT2 hT2s hsf e1
          go_enter Tryz.func29, Tryz.ntmps29
          go_wp2_with (first
            | (go_at_call 41; refine (hU.out _).mono ?_; rintro e w1 ⟨rfl, rfl⟩)
            | (go_at_call 43; refine (hSf.out _).mono ?_; rintro e w2 ⟨rfl, rfl⟩))
          go_ret2
          exact ⟨rfl, Below.refl _ _⟩
end Rd
end Go.Proofs.YtoomoicjoockjaaGreatDoor

namespace Go.Proofs.YtoomoicjoockjaaGreatDoor
namespace Rd
open Go.RowKit
open TextMath (fold unb)
open LdMath
open Lr (PR RC pf chg okD dnB rIsDesc_any rIsChange_any)
set_option linter.unusedVariables false
set_option maxRecDepth 100000

theorem take_front (l : List UInt8) (i : Nat) (h : i < l.length) (hn : ∀ j (hj : j < l.length), j < i → l[j] ≠ 58) (hc : l[i] = 58) : wordOf l = l.take i ∧ restOf l = l.drop (i + 1) := by
  have hno : ∀ q ∈ l.take i, (q != 58) = true := fun q hq => by
    obtain ⟨j, hj, rfl⟩ := List.getElem_of_mem hq
    rw [List.length_take] at hj
    rw [List.getElem_take, bne_iff_ne]
    exact hn j (by omega) (by omega)
  have hsp : l = l.take i ++ 58 :: l.drop (i + 1) := by
    conv => lhs; rw [← List.take_append_drop i l, List.drop_eq_getElem_cons h, hc]
  constructor
  · unfold wordOf
    rw [if_pos (by rw [hsp]; simp)]
    conv => lhs; rw [hsp, List.takeWhile_append_of_pos hno]
    simp
  · unfold restOf
    conv => lhs; rw [hsp, List.dropWhile_append_of_pos hno]
    simp
/-- The place of the first colon. -/
def ColQ (l : List UInt8) (z : Int) : Prop := (z = -1 ∧ l.contains 58 = false ∧ wordOf l = []) ∨ ∃ i : Nat, z = (i : Int) ∧ i < l.length ∧ l.contains 58 = true ∧ wordOf l = l.take i ∧ restOf l = l.drop (i + 1)
theorem ColQ.one {l : List UInt8} {z z' : Int} (h : ColQ l z) (h' : ColQ l z') : z = z' := by
  rcases h with ⟨rfl, h1, _⟩ | ⟨i, rfl, h1, h2, h3, _⟩ <;> rcases h' with ⟨rfl, k1, _⟩ | ⟨j, rfl, k1, k2, k3, _⟩
  · rfl
  · rw [h1] at k2; cases k2
  · rw [k1] at h2; cases h2
  · have := congrArg List.length (h3.symm.trans k3)
    rw [List.length_take, List.length_take] at this
    omega
theorem ColQ.at (l : List UInt8) (i : Nat) (h : i < l.length) (hn : ∀ j (hj : j < l.length), j < i → l[j] ≠ 58) (hc : l[i] = 58) : ColQ l (i : Int) :=
  .inr ⟨i, rfl, h, by rw [List.contains_iff_mem]; exact hc ▸ List.getElem_mem h, take_front l i h hn hc⟩
theorem ColQ.non (l : List UInt8) (hn : ∀ j (hj : j < l.length), l[j] ≠ 58) : ColQ l (-1) := by
  have hc : l.contains 58 = false := by
    rw [Bool.eq_false_iff, Ne, List.contains_iff_mem]
    intro hm
    obtain ⟨j, hj, he⟩ := List.getElem_of_mem hm
    exact hn j hj he
  exact .inl ⟨rfl, hc, by unfold wordOf; rw [hc]; rfl⟩
theorem ColQ.some (l : List UInt8) : ∃ z, ColQ l z := by
  by_cases h : ∃ i, ∃ h : i < l.length, l[i] = 58 ∧ ∀ j (hj : j < l.length), j < i → l[j] ≠ 58
  · obtain ⟨i, hi, hc, hn⟩ := h
    exact ⟨_, ColQ.at l i hi hn hc⟩
  · refine ⟨_, ColQ.non l ?_⟩
    intro j
    induction j using Nat.strongRecOn with
    | ind j ih => exact fun hj he => h ⟨j, hj, he, fun k hk hkj => ih k hkj hk⟩
set_option maxHeartbeats 2000000 in
theorem colon_any (s : ByteArray) (hs : s.size ≤ 1099511627776) (w : World) :
    Calls Tryz.prog 44 #[.string s] w fun e w' => ∃ z, e = .returned (.int .i64 z) ∧ ColQ s.data.toList z ∧ w = w' := by
  have sz : (s.size : Int) ≤ 1099511627776 := by omega
  have sl : Hid (s.data.toList.length = s.size) := size_l s
  go_enter Tryz.func44, Tryz.ntmps44
  go_wp2_with fail
  go_loopw [3] (fun iv wr => ∃ i : Nat, i ≤ s.size ∧ iv = .int .i64 (i : Int) ∧ Hid (∀ j (hj : j < s.data.toList.length), j < i → s.data.toList[j] ≠ 58) ∧ w = wr) (fun iv _ => s.size - (intOf iv).toNat)
  case atStart => exact ⟨0, Nat.zero_le _, rfl, fun j _ hj => absurd hj (Nat.not_lt_zero _), rfl⟩
  case round =>
    obtain ⟨i, hi, rfl, hQ, rfl⟩ := hrel
    have i0 : (0 : Int) ≤ (i : Int) := Int.natCast_nonneg _
    have i1 : (i : Int) ≤ 1099511627776 := by omega
    by_cases hlt : i < s.size
    · have k1 : (i : Int) < (s.size : Int) := Int.ofNat_lt.2 hlt
      obtain ⟨z, hz⟩ : ∃ z : Int, (s[i].toNat : Int) = z := ⟨_, rfl⟩
      by_cases h58 : s[i] = 58
      · have hb : (z == 58) = true := by rw [← hz, h58]; rfl
        have hiL : i < s.data.toList.length := by rw [sl.out]; exact hlt
        have hfin : Hid (ColQ s.data.toList (i : Int)) := ColQ.at _ i hiL hQ.out h58
        clear hQ h58 hi hiL
        go_wp2_with fail
        go_ret
        exact ⟨_, rfl, hfin.out, rfl⟩
      · have hb : (z == 58) = false := by
          rw [← hz, beq_eq_false_iff_ne]
          intro e
          exact h58 (UInt8.toNat_inj.1 (by show _ = 58; omega))
        have hn : Hid (∀ j (hj : j < s.data.toList.length), j < i + 1 → s.data.toList[j] ≠ 58) := fun j hj hji => by
          by_cases h : j < i
          · exact hQ.out j hj h
          · have e : j = i := by omega
            subst e
            exact h58
        have hlt' : Hid (i < s.size) := hlt
        clear hQ h58 hi
        go_wp2_with fail
        go_roundw
        case rel => exact ⟨i + 1, hlt'.out, by simp, hn, trivial⟩
        case measure => have := hlt'.out; simp [intOf]; omega
    · have k1 : ¬ (i : Int) < (s.size : Int) := by omega
      have hfin : Hid (ColQ s.data.toList (-1)) := ColQ.non _ fun j hj => hQ.out j hj (by rw [sl.out] at hj; omega)
      clear hQ hi hlt
      go_wp2_with fail
      go_ret
      exact ⟨_, rfl, hfin.out, rfl⟩
set_option maxHeartbeats 2000000 in
theorem isVersion_any (s : ByteArray) (hs : s.size ≤ 8388608) (w : World) :
    Calls Tryz.prog 27 #[.string s] w fun e w' => e = .returned (.bool (isV s.data.toList)) ∧ Below w.heap.size w w' := by
  obtain ⟨l, hl⟩ : ∃ l, s.data.toList = l := ⟨_, rfl⟩
  have hll : l.length = s.size := by rw [← hl]; exact size_l s
  have sz : (s.size : Int) ≤ 8388608 := by omega
  rw [hl]
  by_cases h8 : s.size < 8
  · have d1 : (s.size : Int) < 8 := by omega
    have hv : Hid (isV l = false) := by
      have : (fold (l.take 8) == verW ++ [58]) = false := by
        rw [beq_eq_false_iff_ne]
        intro e
        have := congrArg List.length e
        simp [fold, verW] at this
        omega
      unfold Hid isV
      rw [this]
      rfl
    rw [hv.out]
    clear hl hll hs h8
    go_enter Tryz.func27, Tryz.ntmps27
    go_wp2_with fail
    go_ret
    exact ⟨rfl, Below.refl _ _⟩
  · have d1 : ¬ (s.size : Int) < 8 := by omega
    have d2 : (8 : Int) ≤ (s.size : Int) := by omega
    obtain ⟨T1, hT1⟩ : ∃ T1, s.extract 0 8 = T1 := ⟨_, rfl⟩
    have hT1l : T1.data.toList = l.take 8 := by rw [← hT1, take_l, hl]
    obtain ⟨f, hf⟩ : ∃ f, S (fold (l.take 8)) = f := ⟨_, rfl⟩
    have hF : Hid (Calls Tryz.prog 28 #[.string (s.extract 0 8)] w fun e w' => e = .returned (.string f) ∧ Below w.heap.size w w') := by
      rw [hT1]
      have := rFold_any T1 w (by rw [← hT1, ByteArray.size_extract]; omega)
      rw [hT1l, hf] at this
      exact this
    have hfb : (f.toList == [118, 101, 114, 115, 105, 111, 110, 58]) = (fold (l.take 8) == verW ++ [58]) := by rw [Lib.toList_data, ← hf, S_l]; rfl
    obtain ⟨T2, hT2⟩ : ∃ T2, s.extract 8 s.size = T2 := ⟨_, rfl⟩
    have hT2l : T2.data.toList = l.drop 8 := by rw [← hT2, drop_l, hl]
    obtain ⟨g, hg⟩ : ∃ g, S (skipS (l.drop 8)) = g := ⟨_, rfl⟩
    have hU : Hid (∀ W, Calls Tryz.prog 41 #[.string (s.extract 8 s.size)] W fun e w' => e = .returned (.string g) ∧ W = w') := fun W => by
      rw [hT2]
      have := unfilled_any T2 (by rw [← hT2, ByteArray.size_extract]; omega) W
      rw [hT2l, hg] at this
      exact this
    have hgb : (g.toList == [49]) = (skipS (l.drop 8) == [49]) := by rw [Lib.toList_data, ← hg, S_l]
    have hv : Hid (isV l = ((fold (l.take 8) == verW ++ [58]) && (skipS (l.drop 8) == [49]))) := rfl
    rw [hv.out]
    generalize (fold (l.take 8) == verW ++ [58]) = x at *
    generalize (skipS (l.drop 8) == [49]) = y at *
    clear hv hl hll hs h8 hT1 hT2 hT1l hT2l hf hg
    cases x
    · go_enter Tryz.func27, Tryz.ntmps27
      go_wp2_with (go_at_call 28; refine hF.out.mono ?_; rintro e w1 ⟨rfl, hb1⟩; have H1 : Hid (Below w.heap.size w w1) := hb1; clear hb1)
      go_ret
      exact ⟨rfl, H1.out⟩
    · cases y
      all_goals
        go_enter Tryz.func27, Tryz.ntmps27
        go_wp2_with (first
          | (go_at_call 28; refine hF.out.mono ?_; rintro e w1 ⟨rfl, hb1⟩; have H1 : Hid (Below w.heap.size w w1) := hb1; clear hb1)
          | (go_at_call 41; refine (hU.out _).mono ?_; rintro e w2 ⟨rfl, rfl⟩))
        go_ret
        exact ⟨rfl, H1.out⟩
theorem results_ctp {fn : Func} {t u : Tmp} {ty : TypeId} (h : fn.results = #[.cell t ty, .tmp u]) (tmps : Array Value) (P : Program) (w : World) (p : Addr) (x : Value) (hp : tmps.getD t undef = .pointer (some p)) (hl : (loadVar ty p).run P w = .ok x w) :
    (results fn tmps).run P w = .ok (.tuple #[x, tmps.getD u undef]) w := by
  have hp' : tmps[t]?.getD undef = .pointer (some p) := by rw [← hp]; simp
  simp [results, h, hp', asAddr, hl, Result.andThen]
/-- The pair's box, and when it has been written. -/
def Pb (w W : World) : Prop := W.heap[w.heap.size]? = some (.cells #[.string ⟨#[]⟩, .string ⟨#[]⟩] 50 (0, 0)) ∧ Below w.heap.size w W
theorem Pb.below {w W W' : World} (h : Pb w W) (hb : Below W.heap.size W W') : Pb w W' := ⟨(hb.block _ (Array.getElem?_eq_some_iff.1 h.1).1).trans h.1, h.2.trans (hb.mono h.2.size)⟩
theorem Pb.cells {w W : World} (h : Pb w W) : (∃ x y, W.cell? ⟨w.heap.size, 0, none⟩ = some x ∧ W.cell? ⟨w.heap.size, 1, none⟩ = some y) ∧ W.frozen? ⟨w.heap.size, 0, none⟩ = false ∧ W.frozen? ⟨w.heap.size, 1, none⟩ = false := by
  refine ⟨⟨.string ⟨#[]⟩, .string ⟨#[]⟩, ?_, ?_⟩, Go.frozen_of_row _ _ _ _ _ h.1, Go.frozen_of_row _ _ _ _ _ h.1⟩
  · rw [cell_of_row _ _ _ _ _ _ h.1]; rfl
  · rw [cell_of_row _ _ _ _ _ _ h.1]; rfl
theorem Pb.done {w W : World} (h : Pb w W) (x y : Value) : (loadVar 50 ⟨w.heap.size, 0, none⟩).run Tryz.prog ((W.setCell ⟨w.heap.size, 0, none⟩ x).setCell ⟨w.heap.size, 1, none⟩ y) = .ok (.agg #[x, y]) ((W.setCell ⟨w.heap.size, 0, none⟩ x).setCell ⟨w.heap.size, 1, none⟩ y) ∧ Below w.heap.size w ((W.setCell ⟨w.heap.size, 0, none⟩ x).setCell ⟨w.heap.size, 1, none⟩ y) := by
  have h1 := Go.heap_setCell_same _ w.heap.size 1 _ _ y (Go.heap_setCell_same W w.heap.size 0 _ _ x h.1)
  exact ⟨run_loadVar_row (P := Tryz.prog) _ w.heap.size 50 50 #[x, y] (0, 0) _ h1 Tryz.underlying50 rfl (by kernel_rfl), (h.2.setCell (p := ⟨w.heap.size, 0, none⟩) (Nat.le_refl _) _).setCell (p := ⟨w.heap.size, 1, none⟩) (Nat.le_refl _) _⟩
def PrQ (l : List UInt8) (second : Bool) (e : Ending) : Prop := ∃ d v, e = .returned (.tuple #[.agg #[.string d, .string v], .int .i64 (pF second l : Int)]) ∧ (pF second l = 0 → d = S (wordOf l) ∧ v = S (valOf (restOf l)).1)
theorem PrQ.bad {l : List UInt8} {second : Bool} {f : Nat} (h : pF second l = f) (hf : f ≠ 0) (d v : ByteArray) : PrQ l second (.returned (.tuple #[.agg #[.string d, .string v], .int .i64 (f : Int)])) :=
  ⟨d, v, by rw [h], fun e => absurd (h ▸ e) hf⟩
theorem val_nums (l : List UInt8) : (valOf l).2 = 0 ∨ (valOf l).2 = 76 ∨ (valOf l).2 = 77 := by
  unfold valOf
  split
  · exact .inr (.inr rfl)
  · split
    · split
      · exact .inl rfl
      · exact .inr (.inl rfl)
    · split
      · exact .inl rfl
      · exact .inr (.inl rfl)
theorem pF_word {second : Bool} {l : List UInt8} {f : Nat} (h : pf second (wordOf l) = f) (hf : f ≠ 0) : pF second l = f := by
  unfold pF
  rw [h, if_pos hf]
theorem pF_val {second : Bool} {l : List UInt8} (h : pf second (wordOf l) = 0) : pF second l = (valOf (restOf l)).2 := by
  unfold pF
  rw [h, if_neg (fun e => e rfl)]
set_option maxHeartbeats 4000000 in
theorem pair_any (s : ByteArray) (hs : s.size ≤ 4194304) (second : Bool) (w : World) :
    Calls Tryz.prog 30 #[.string s, .bool second] w fun e w' => PrQ s.data.toList second e ∧ Below w.heap.size w w' := by
  obtain ⟨l, hl⟩ : ∃ l, s.data.toList = l := ⟨_, rfl⟩
  have hll : l.length = s.size := by rw [← hl]; exact size_l s
  obtain ⟨Wa, hWa⟩ : ∃ Wa, w.alloc (.cells #[.string ⟨#[]⟩, .string ⟨#[]⟩] 50) = Wa := ⟨_, rfl⟩
  have Pa : Hid (Pb w Wa) := by unfold Hid; rw [← hWa]; exact ⟨heap_alloc_last w _, (Below.refl _ _).alloc (Nat.le_refl _) _⟩
  have hC0 := colon_any s (by omega) Wa
  rw [hl] at hC0 ⊢
  have sz : (s.size : Int) ≤ 4194304 := by omega
  obtain ⟨z, hz⟩ := ColQ.some l
  have hC : Hid (Calls Tryz.prog 44 #[.string s] Wa fun e w' => e = .returned (.int .i64 z) ∧ Wa = w') := by
    refine hC0.mono ?_
    rintro e w' ⟨z', rfl, hz', rfl⟩
    exact ⟨by rw [hz.one hz'], rfl⟩
  clear hC0
  have hE : Hid (∀ W x y, Pb w W → (loadVar 50 ⟨w.heap.size, 0, none⟩).run Tryz.prog ((W.setCell ⟨w.heap.size, 0, none⟩ x).setCell ⟨w.heap.size, 1, none⟩ y) = .ok (.agg #[x, y]) ((W.setCell ⟨w.heap.size, 0, none⟩ x).setCell ⟨w.heap.size, 1, none⟩ y) ∧ Below w.heap.size w ((W.setCell ⟨w.heap.size, 0, none⟩ x).setCell ⟨w.heap.size, 1, none⟩ y)) := fun W x y h => h.done x y
  rcases hz with ⟨rfl, hc, hw⟩ | ⟨i, rfl, hi, hc, hw, hr⟩
  · have hf : Hid (pF second l = 75) := pF_word (by rw [hw]; cases second <;> decide) (by decide)
    obtain ⟨⟨x0, y0, c0, c1⟩, f0, f1⟩ := Pa.out.cells
    clear hs hl hll hc hw
    go_enter Tryz.func30, Tryz.ntmps30
    go_wp2_with (go_at_call 44; refine hC.out.mono ?_; rintro e w1 ⟨rfl, rfl⟩)
    have hD := hE.out Wa (.string ⟨#[]⟩) (.string ⟨#[]⟩) Pa.out
    refine bodyPost_ret (results_ctp rfl _ _ _ _ _ rfl hD.1) rfl ?_; exact ⟨PrQ.bad hf.out (by decide) _ _, hD.2⟩
  · have i0 : (0 : Int) ≤ (i : Int) := Int.natCast_nonneg _
    have i1 : (i : Int) < (s.size : Int) := by omega
    have i2 : ¬ (i : Int) < 0 := by omega
    have i3 : (i : Int) + 1 ≤ (s.size : Int) := by omega
    have hw1 : (s.extract 0 i).data.toList = wordOf l := by rw [take_l, hl, hw]
    have hI : Hid (Calls Tryz.prog 45 #[.string (s.extract 0 i)] Wa fun e w' => e = .returned (.bool (okD (wordOf l))) ∧ Below Wa.heap.size Wa w') := by
      have := rIsDesc_any (s.extract 0 i) Wa (by rw [ByteArray.size_extract]; omega)
      rw [hw1] at this
      exact this
    cases ho : okD (wordOf l) with
    | false =>
      rw [ho] at hI
      have hf : Hid (pF second l = 75) := pF_word (by
        have hch : chg (wordOf l) = false := by
          cases h : chg (wordOf l) with
          | false => rfl
          | true => rw [Lr.chg_ok _ h] at ho; cases ho
        unfold pf
        rw [hch, ho, Bool.and_false]
        rfl) (by decide)
      clear hs hl hll hc hw hw1 ho hr hi
      go_enter Tryz.func30, Tryz.ntmps30
      go_wp2_with (first
        | (go_at_call 44; refine hC.out.mono ?_; rintro e w1 ⟨rfl, rfl⟩)
        | (go_at_call 45; refine hI.out.mono ?_; rintro e w2 ⟨rfl, hb2⟩; have P2 : Hid (Pb w w2) := Pa.out.below hb2; clear hb2; obtain ⟨⟨x0, y0, c0, c1⟩, f0, f1⟩ := P2.out.cells))
      have hD := hE.out _ (.string ⟨#[]⟩) (.string ⟨#[]⟩) P2.out
      refine bodyPost_ret (results_ctp rfl _ _ _ _ _ rfl hD.1) rfl ?_; exact ⟨PrQ.bad hf.out (by decide) _ _, hD.2⟩
    | true =>
      rw [ho] at hI
      have hG : Hid (∀ W, Calls Tryz.prog 46 #[.string (s.extract 0 i)] W fun e w' => e = .returned (.bool (chg (wordOf l))) ∧ Below W.heap.size W w') := fun W => by
        have := rIsChange_any (s.extract 0 i) W (by rw [ByteArray.size_extract]; omega)
        rw [hw1] at this
        exact this
      by_cases hsc : second = true ∧ chg (wordOf l) = true
      · obtain ⟨rfl, hch⟩ := hsc
        rw [hch] at hG
        have hf : Hid (pF true l = 78) := pF_word (by unfold pf; rw [hch]; rfl) (by decide)
        clear hs hl hll hc hw hw1 ho hr hi hch
        go_enter Tryz.func30, Tryz.ntmps30
        go_wp2_with (first
          | (go_at_call 44; refine hC.out.mono ?_; rintro e w1 ⟨rfl, rfl⟩)
          | (go_at_call 45; refine hI.out.mono ?_; rintro e w2 ⟨rfl, hb2⟩; have P2 : Hid (Pb w w2) := Pa.out.below hb2; clear hb2)
          | (go_at_call 46; refine (hG.out _).mono ?_; rintro e w3 ⟨rfl, hb3⟩; have P3 : Hid (Pb w w3) := P2.out.below hb3; clear hb3; obtain ⟨⟨x0, y0, c0, c1⟩, f0, f1⟩ := P3.out.cells))
        have hD := hE.out _ (.string ⟨#[]⟩) (.string ⟨#[]⟩) P3.out
        refine bodyPost_ret (results_ctp rfl _ _ _ _ _ rfl hD.1) rfl ?_; exact ⟨PrQ.bad hf.out (by decide) _ _, hD.2⟩
      · have hp0 : pf second (wordOf l) = 0 := by
          unfold pf
          rw [ho, if_pos rfl]
          cases second with
          | false => rfl
          | true =>
            cases h : chg (wordOf l) with
            | false => rfl
            | true => exact absurd ⟨rfl, h⟩ hsc
        have hr1 : (s.extract (i + 1) s.size).data.toList = restOf l := by rw [drop_l, hl, hr]
        obtain ⟨V, hV⟩ : ∃ V, S (valOf (restOf l)).1 = V := ⟨_, rfl⟩
        have hL : Hid (∀ W, Calls Tryz.prog 29 #[.string (s.extract (i + 1) s.size)] W fun e w' => e = .returned (.tuple #[.string V, .int .i64 (wh (valOf (restOf l)).2)]) ∧ Below W.heap.size W w') := fun W => by
          have := value_any (s.extract (i + 1) s.size) (by rw [ByteArray.size_extract]; omega) W
          rw [hr1, hV] at this
          exact this
        have hpv := pF_val hp0
        have hwS : Hid (s.extract 0 i = S (wordOf l)) := S_eq _ _ hw1
        have hGf : Hid (second = true → ∀ W, Calls Tryz.prog 46 #[.string (s.extract 0 i)] W fun e w' => e = .returned (.bool false) ∧ Below W.heap.size W w') := fun h2 W => by
          have := hG.out W
          rw [show chg (wordOf l) = false by
            cases h : chg (wordOf l) with
            | false => rfl
            | true => exact absurd ⟨h2, h⟩ hsc] at this
          exact this
        clear hG hsc
        have hq : Hid (∀ f, (valOf (restOf l)).2 = f → f ≠ 0 → pF second l = f) := fun f h _ => hpv.trans h
        have hok : Hid ((valOf (restOf l)).2 = 0 → ∀ d, d = S (wordOf l) → PrQ l second (.returned (.tuple #[.agg #[.string d, .string V], .int .i64 0]))) := fun h d hd => ⟨d, V, by rw [hpv, h]; rfl, fun _ => ⟨hd, hV.symm⟩⟩
        rcases val_nums (restOf l) with hv | hv | hv
        all_goals
          rw [hv] at hL
          unfold wh at hL
          simp only [reduceIte, reduceCtorEq, Nat.reduceEqDiff] at hL
          cases second
          all_goals
            have hf : Hid _ := hq.out _ hv
            have hok' : Hid _ := hok.out
            have hv' : Hid _ := hv
            try have hGg : Hid (∀ W, Calls Tryz.prog 46 #[.string (s.extract 0 i)] W fun e w' => e = .returned (.bool false) ∧ Below W.heap.size W w') := hGf.out rfl
            clear hs hl hll hc hw hw1 ho hr hi hr1 hV hpv hp0 hq hok hv hGf
            go_enter Tryz.func30, Tryz.ntmps30
            go_wp2_with (first
              | (go_at_call 44; refine hC.out.mono ?_; rintro e w1 ⟨rfl, rfl⟩)
              | (go_at_call 45; refine hI.out.mono ?_; rintro e w2 ⟨rfl, hb2⟩; have P2 : Hid (Pb w w2) := Pa.out.below hb2; clear hb2)
              | (go_at_call 46; refine (hGg.out _).mono ?_; rintro e w3 ⟨rfl, hb3⟩; have P3 : Hid (Pb w w3) := P2.out.below hb3; clear hb3)
              | (go_at_call 29; refine (hL.out _).mono ?_; rintro e w4 ⟨rfl, hb4⟩; have P4 : Hid (Pb w w4) := (by first | exact P3.out.below hb4 | exact P2.out.below hb4); clear hb4; obtain ⟨⟨x0, y0, c0, c1⟩, f0, f1⟩ := P4.out.cells))
            first
            | (have hD := hE.out _ (.string ⟨#[]⟩) (.string ⟨#[]⟩) P4.out
               refine bodyPost_ret (results_ctp rfl _ _ _ _ _ rfl hD.1) rfl ?_; exact ⟨PrQ.bad (hf.out (by decide)) (by decide) _ _, hD.2⟩)
            | (have hD := hE.out _ (.string (s.extract 0 i)) (.string V) P4.out
               refine bodyPost_ret (results_ctp rfl _ _ _ _ _ rfl hD.1) rfl ?_; exact ⟨hok'.out hv'.out _ hwS.out, hD.2⟩)
end Rd
end Go.Proofs.YtoomoicjoockjaaGreatDoor
