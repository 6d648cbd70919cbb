import Derived.Test.YtoomoicjoockjaaGreatDoorRdA
import Derived.Test.YtoomoicjoockjaaGreatDoorLrC
namespace Go.Proofs.YtoomoicjoockjaaGreatDoor
namespace Rd
open Go.RowKit
open TextMath (b64 fold unb)
open LdMath
open Lr (PR RC pf chg okD dnB ChgTab)
set_option linter.unusedVariables false
set_option maxRecDepth 100000

theorem head_eq (l : List UInt8) (c : UInt8) : Lib.hasPrefix l [c] = (l.head? == some c) := by
  unfold Lib.hasPrefix
  cases l with
  | nil => rfl
  | cons x l =>
    simp [List.isPrefixOf]
    rw [Bool.eq_iff_iff]
    simp
    exact ⟨fun h => h.symm, fun h => h.symm⟩
theorem pre_any (s : ByteArray) (c : UInt8) (W : World) : Calls Tryz.prog 23 #[.string s, .string ⟨#[c]⟩] W fun e w' => e = .returned (.bool (s.data.toList.head? == some c)) ∧ w' = W := by
  have := Tryz.strings_HasPrefix s ⟨#[c]⟩ W
  rw [show (⟨#[c]⟩ : ByteArray).data.toList = [c] from rfl, head_eq] at this
  exact this
set_option maxHeartbeats 2000000 in
theorem readValue_any (s : ByteArray) (w : World) (hm : s.size ≤ 281474976710656) (ht : WTab w) :
    Calls Tryz.prog 38 #[.string s] w fun e w' => e = .returned (.tuple #[.string (S (valOf s.data.toList).1), .int .i64 ((valOf s.data.toList).2 : Nat)]) ∧ Below w.heap.size w w' := by
  have h60 := pre_any s 60 w
  have h58 := pre_any s 58 w
  cases e60 : (s.data.toList.head? == some 60) with
  | true =>
    have hv : valOf s.data.toList = ([], 77) := by unfold valOf; rw [if_pos (by simpa using e60)]
    rw [hv]
    rw [e60] at h60
    clear hv e60
    go_enter Tryz.func38, Tryz.ntmps38
    go_wp2_with (go_at_call 23; refine h60.mono ?_; rintro e w' ⟨rfl, rfl⟩)
    go_ret2
    exact ⟨rfl, Below.refl _ _⟩
  | false =>
    rw [e60] at h60
    have n60 : ¬ s.data.toList.head? = some 60 := by simpa using e60
    cases e58 : (s.data.toList.head? == some 58) with
    | true =>
      have y58 : s.data.toList.head? = some 58 := by simpa using e58
      rw [e58] at h58
      have hv : valOf s.data.toList = decV (skipS s.data.toList.tail) := by
        unfold valOf decV
        rw [if_neg n60, if_pos y58]
        rfl
      have h1 : 1 ≤ s.size := by
        rw [← size_l]
        cases hl : s.data.toList with
        | nil => rw [hl] at y58; cases y58
        | cons a b => simp
      have ex : s.extract 1 s.size = S s.data.toList.tail := by rw [S_eq _ _ (drop_l s 1), List.drop_one]
      have hsk := skip_any (S s.data.toList.tail) w
      rw [S_l] at hsk
      have hdc := decode_any (S (skipS s.data.toList.tail)) w (by
        rw [S_size]
        have h2 : (skipS s.data.toList.tail).length ≤ s.data.toList.tail.length := (List.dropWhile_sublist _).length_le
        rw [List.length_tail, size_l] at h2
        omega) ht
      rw [S_l, ← hv] at hdc
      rw [← ex] at hsk
      have p1 : (1 : Int) ≤ (s.size : Int) := by omega
      obtain ⟨k, hk⟩ : ∃ k, S (skipS s.data.toList.tail) = k := ⟨_, rfl⟩
      rw [hk] at hsk hdc
      generalize (valOf s.data.toList).1 = v1 at *
      generalize (valOf s.data.toList).2 = v2 at *
      clear hv e60 e58 ex n60 y58 hk
      go_enter Tryz.func38, Tryz.ntmps38
      go_wp2_with (first
        | (go_at_call 23; refine h60.mono ?_; rintro e w' ⟨rfl, rfl⟩; clear h60)
        | (go_at_call 23; refine h58.mono ?_; rintro e w' ⟨rfl, rfl⟩; clear h58)
        | (go_at_call 39; refine hsk.mono ?_; rintro e w' ⟨rfl, rfl⟩)
        | (go_at_call 53; refine hdc.mono ?_; rintro e w' ⟨rfl, hb⟩))
      go_ret2
      exact ⟨rfl, hb⟩
    | false =>
      have n58 : ¬ s.data.toList.head? = some 58 := by simpa using e58
      rw [e58] at h58
      have hsk := skip_any s w
      have hsf := safe_any (S (skipS s.data.toList)) w
      rw [S_l] at hsf
      cases hs : safe (skipS s.data.toList) with
      | true =>
        have hv : valOf s.data.toList = (skipS s.data.toList, 0) := by
          unfold valOf
          rw [if_neg n60, if_neg n58, if_pos hs]
        rw [hv]
        rw [hs] at hsf
        generalize S (skipS s.data.toList) = k at *
        clear hv e60 e58 n60 n58 hs
        go_enter Tryz.func38, Tryz.ntmps38
        go_wp2_with (first
          | (go_at_call 23; refine h60.mono ?_; rintro e w' ⟨rfl, rfl⟩; clear h60)
          | (go_at_call 23; refine h58.mono ?_; rintro e w' ⟨rfl, rfl⟩; clear h58)
          | (go_at_call 39; refine hsk.mono ?_; rintro e w' ⟨rfl, rfl⟩)
          | (go_at_call 54; refine hsf.mono ?_; rintro e w' ⟨rfl, hb⟩))
        go_ret2
        exact ⟨rfl, hb⟩
      | false =>
        have hv : valOf s.data.toList = ([], 76) := by
          unfold valOf
          rw [if_neg n60, if_neg n58, if_neg (by rw [hs]; decide)]
        rw [hv]
        rw [hs] at hsf
        generalize S (skipS s.data.toList) = k at *
        clear hv e60 e58 n60 n58 hs
        go_enter Tryz.func38, Tryz.ntmps38
        go_wp2_with (first
          | (go_at_call 23; refine h60.mono ?_; rintro e w' ⟨rfl, rfl⟩; clear h60)
          | (go_at_call 23; refine h58.mono ?_; rintro e w' ⟨rfl, rfl⟩; clear h58)
          | (go_at_call 39; refine hsk.mono ?_; rintro e w' ⟨rfl, rfl⟩)
          | (go_at_call 54; refine hsf.mono ?_; rintro e w' ⟨rfl, hb⟩))
        go_ret2
        exact ⟨rfl, hb⟩

set_option maxHeartbeats 2000000 in
theorem wfault_any (s : ByteArray) (k : Nat) (hk : k ≤ 4) (w : World) (hs : s.size ≤ 4194304) (hT : ChgTab w) :
    Calls Tryz.prog 37 #[.string s, .int .i64 (k : Int)] w fun e w' => e = .returned (.int .i64 (wfl k s.data.toList : Nat)) ∧ Below w.heap.size w w' := by
  by_cases h3 : k = 3
  · subst h3
    exact Lr.wordFault_any s true 3 rfl w hs hT
  by_cases h4 : k = 4
  · subst h4
    exact Lr.wordFault_any s false 4 rfl w hs hT
  obtain ⟨f, hf⟩ : ∃ f, S (fold s.data.toList) = f := ⟨_, rfl⟩
  have hfl : f.data.toList = fold s.data.toList := by rw [← hf, S_l]
  have hF : Hid (Calls Tryz.prog 50 #[.string s] w fun e w' => e = .returned (.string f) ∧ Below w.heap.size w w') := by
    have := fold_any s w (by unfold maxLen; omega)
    rw [hf] at this
    exact this
  have hdn : (f.toList == [100, 110]) = decide (fold s.data.toList = dnB) := by rw [Lib.toList_data, hfl, Bool.eq_iff_iff, beq_iff_eq, decide_eq_true_iff]; exact Iff.rfl
  have hvr : (f.toList == [118, 101, 114, 115, 105, 111, 110]) = decide (fold s.data.toList = verW) := by rw [Lib.toList_data, hfl, Bool.eq_iff_iff, beq_iff_eq, decide_eq_true_iff]; exact Iff.rfl
  by_cases h0 : k = 0
  · subst h0
    have hw : wfl 0 s.data.toList = if decide (fold s.data.toList = verW) = true then 0 else 72 := by unfold wfl; rw [if_pos rfl]; simp
    rw [hw]
    clear hf hfl hs hT hdn hw
    cases hx : decide (fold s.data.toList = verW)
    all_goals
      rw [hx] at hvr
      clear hx
      go_enter Tryz.func37, Tryz.ntmps37
      go_wp2_with (go_at_call 50; refine hF.out.mono ?_; rintro e w1 ⟨rfl, hb1⟩; have H1 : Hid (Below w.heap.size w w1) := hb1; clear hb1)
      go_ret
      exact ⟨rfl, H1.out⟩
  · have hw : wfl k s.data.toList = if decide (fold s.data.toList = dnB) = true then 0 else 73 := by unfold wfl; rw [if_neg h0, if_pos (by omega)]; simp
    rw [hw]
    clear hf hfl hs hT hvr hw
    have hk' : k = 1 ∨ k = 2 := by omega
    clear h0 h3 h4 hk
    cases hx : decide (fold s.data.toList = dnB)
    all_goals
      rw [hx] at hdn
      clear hx
      rcases hk' with rfl | rfl
      all_goals
        go_enter Tryz.func37, Tryz.ntmps37
        go_wp2_with (go_at_call 50; refine hF.out.mono ?_; rintro e w1 ⟨rfl, hb1⟩; have H1 : Hid (Below w.heap.size w w1) := hb1; clear hb1)
        go_ret
        exact ⟨rfl, H1.out⟩
end Rd
end Go.Proofs.YtoomoicjoockjaaGreatDoor
