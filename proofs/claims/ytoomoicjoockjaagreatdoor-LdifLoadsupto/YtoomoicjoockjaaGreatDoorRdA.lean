import Derived.Test.YtoomoicjoockjaaGreatDoorGM
import Derived.Test.YtoomoicjoockjaaGreatDoorUbLoop
import Derived.Test.YtoomoicjoockjaaGreatDoorGLd
import Derived.BigQuiet
namespace Go.Proofs.YtoomoicjoockjaaGreatDoor
namespace Rd
open Go.RowKit
open TextMath (b64 fold unb)
open LdMath
set_option linter.unusedVariables false
set_option maxRecDepth 100000

theorem idx_no (l : List UInt8) (c : UInt8) (h : l.contains c = false) : Lib.indexByte l c = -1 := by
  have h1 := idx_eq l c
  rw [h] at h1
  have h2 := Lib.indexByte_ge l c
  have h3 := of_decide_eq_false h1
  omega
theorem idx_yes (l : List UInt8) (c : UInt8) (h : l.contains c = true) : Lib.indexByte l c = ((l.takeWhile (fun x => x != c)).length : Int) ∧ (l.takeWhile (fun x => x != c)).length < l.length := by
  induction l with
  | nil => simp at h
  | cons x l ih =>
    unfold Lib.indexByte
    by_cases e : x = c
    · subst e
      simp
    · have h1 : (x == c) = false := by simpa using e
      have h2 : (c == x) = false := by simpa using fun e' => e e'.symm
      rw [List.contains_cons, h2, Bool.false_or] at h
      obtain ⟨h3, h4⟩ := ih h
      have h5 : (x != c) = true := by simp [bne, h1]
      rw [List.takeWhile_cons, h5, if_pos rfl, h1, if_neg (by simp), h3, if_neg (by simp)]
      simp only [List.length_cons]
      omega
/-- What Cut answers. -/
def cutA (l : List UInt8) : List UInt8 := if l.contains 58 then l.takeWhile (fun c => c != 58) else l
theorem takeW_take (l : List UInt8) (p : UInt8 → Bool) : l.takeWhile p = l.take (l.takeWhile p).length := by
  induction l with
  | nil => rfl
  | cons x l ih =>
    by_cases h : p x = true
    · rw [List.takeWhile_cons, if_pos h, List.length_cons, List.take_succ_cons, ← ih]
    · rw [List.takeWhile_cons, if_neg h]; rfl
theorem dropW_drop (l : List UInt8) (p : UInt8 → Bool) : l.dropWhile p = l.drop (l.takeWhile p).length := by
  induction l with
  | nil => rfl
  | cons x l ih =>
    by_cases h : p x = true
    · rw [List.takeWhile_cons, if_pos h, List.dropWhile_cons, if_pos h, List.length_cons, List.drop_succ_cons, ← ih]
    · rw [List.takeWhile_cons, if_neg h, List.dropWhile_cons, if_neg h]; rfl
theorem rest_no (l : List UInt8) (h : l.contains 58 = false) : restOf l = [] := by
  unfold restOf
  have : l.dropWhile (fun c => c != 58) = [] := by
    induction l with
    | nil => rfl
    | cons x l ih =>
      rw [List.contains_cons, Bool.or_eq_false_iff] at h
      have hx : (x != 58) = true := by
        have : ¬ 58 = x := by simpa using h.1
        simpa using fun e : x = 58 => this e.symm
      rw [List.dropWhile_cons, if_pos hx]
      exact ih h.2
  rw [this]
  rfl

set_option maxHeartbeats 2000000 in
theorem cut_in (s : ByteArray) (hs : s.size ≤ 281474976710656) (w : World) :
    Calls Tryz.prog 49 #[.string s, .string ⟨#[58]⟩] w fun e w' => e = .returned (.tuple #[.string (S (cutA s.data.toList)), .string (S (restOf s.data.toList)), .bool (s.data.toList.contains 58)]) ∧ Below w.heap.size w w' := by
  have hix := Tryz.stringslite_Index_one s 58 w
  cases hc : s.data.toList.contains 58 with
  | false =>
    rw [idx_no _ _ hc] at hix
    have e1 : S (cutA s.data.toList) = s := by unfold cutA; rw [hc]; exact S_of s
    have e2 : S (restOf s.data.toList) = ⟨#[]⟩ := by rw [rest_no _ hc]; rfl
    rw [e1, e2]
    go_enter Tryz.func49, Tryz.ntmps49
    go_wp2_with (go_at_call 48; refine hix.mono ?_; rintro e w' ⟨rfl, rfl⟩)
    go_ret3
    exact ⟨rfl, Below.refl _ _⟩
  | true =>
    obtain ⟨h1, h2⟩ := idx_yes _ _ hc
    rw [h1] at hix
    obtain ⟨i, hi⟩ : ∃ i, (s.data.toList.takeWhile (fun x => x != 58)).length = i := ⟨_, rfl⟩
    have e1 : S (cutA s.data.toList) = s.extract 0 i := by
      unfold cutA
      rw [hc, if_pos rfl, takeW_take, hi]
      exact (S_eq _ _ (take_l s i)).symm
    have e2 : S (restOf s.data.toList) = s.extract (i + 1) s.size := by
      unfold restOf
      rw [dropW_drop, hi, List.tail_drop]
      exact (S_eq _ _ (drop_l s (i + 1))).symm
    rw [e1, e2]
    rw [hi] at hix h2
    rw [size_l] at h2
    have c1 : (0 : Int) ≤ (i : Int) := by omega
    have c2 : (i : Int) ≤ (s.size : Int) := by omega
    have c3 : (0 : Int) ≤ (i : Int) + 1 := by omega
    have c4 : (i : Int) + 1 ≤ (s.size : Int) := by omega
    clear h1 hc e1 e2 hi
    go_enter Tryz.func49, Tryz.ntmps49
    go_wp2_with (go_at_call 48; refine hix.mono ?_; rintro e w' ⟨rfl, rfl⟩)
    go_quiet (fail)
    go_wp2
    go_ret3
    exact ⟨rfl, ⟨rfl, rfl, rfl, Nat.le_refl _, fun _ _ => rfl⟩⟩
set_option maxHeartbeats 2000000 in
theorem cut_any (s : ByteArray) (hs : s.size ≤ 281474976710656) (w : World) :
    Calls Tryz.prog 36 #[.string s, .string ⟨#[58]⟩] w fun e w' => e = .returned (.tuple #[.string (S (cutA s.data.toList)), .string (S (restOf s.data.toList)), .bool (s.data.toList.contains 58)]) ∧ Below w.heap.size w w' := by
  have h := cut_in s hs w
  generalize s.data.toList.contains 58 = x at *
  go_enter Tryz.func36, Tryz.ntmps36
  go_wp2_with (go_at_call 49; refine h.mono ?_; rintro e w' ⟨rfl, hb⟩)
  go_ret3
  exact ⟨rfl, hb⟩
theorem trimL_skip (l : List UInt8) : Lib.trimLeftB l 32 = skipS l := by
  unfold skipS
  induction l with
  | nil => rfl
  | cons x l ih => simp [Lib.trimLeftB]
theorem skip_any (s : ByteArray) (w : World) :
    Calls Tryz.prog 39 #[.string s] w fun e w' => e = .returned (.string (S (skipS s.data.toList))) ∧ w = w' := by
  have h := Tryz.strings_TrimLeft_one s 32 (by decide) w
  rw [trimL_skip] at h
  go_enter Tryz.func39, Tryz.ntmps39
  go_wp2_with (go_at_call 55; refine h.mono ?_; rintro e w' ⟨rfl, rfl⟩)
  go_ret
  exact ⟨rfl, rfl⟩
/-- What decode answers. -/
def decV (l : List UInt8) : List UInt8 × Nat := match unb l 0 with | .ok v => (v, 0) | .error _ => ([], 76)
theorem decode_any (s : ByteArray) (w : World) (hm : s.size ≤ 281474976710656) (ht : WTab w) :
    Calls Tryz.prog 53 #[.string s] w fun e w' => e = .returned (.tuple #[.string (S (decV s.data.toList).1), .int .i64 ((decV s.data.toList).2 : Nat)]) ∧ Below w.heap.size w w' := by
  have h := unbase64_any s w hm ht
  unfold decV
  cases hu : unb s.data.toList 0 with
  | ok v =>
    rw [hu] at h
    unfold ubV at h
    go_enter Tryz.func53, Tryz.ntmps53
    go_wp2_with (go_at_call 68; refine h.mono ?_; rintro e w' ⟨rfl, hb⟩)
    go_ret2
    exact ⟨rfl, hb⟩
  | error p =>
    rw [hu] at h
    unfold ubV at h
    go_enter Tryz.func53, Tryz.ntmps53
    go_wp2_with (go_at_call 68; refine h.mono ?_; rintro e w' ⟨rfl, hb⟩)
    go_ret2
    exact ⟨rfl, hb⟩
end Rd
end Go.Proofs.YtoomoicjoockjaaGreatDoor
