import Derived.Test.YtkecaeceeldcaaaGreatDoorCol
namespace Go.Proofs.YtkecaeceeldcaaaGreatDoor
open Go.RowKit
open TextMath (trimP trimS fold col squeeze normal)

theorem tp_yes (s : ByteArray) (h : ((s.extract 0 1).toList == [32]) = true) : s.extract 1 s.size = S (trimP s.data.toList) := by
  have h' : s.data.toList.take 1 = [32] := by rw [← take_l, ← Lib.toList_data]; simpa using h
  apply S_eq
  rw [drop_l]
  unfold trimP
  rw [if_pos]
  cases hl : s.data.toList with
  | nil => rw [hl] at h'; simp at h'
  | cons a t => rw [hl] at h'; simp at h'; simp [h']
theorem tp_no (s : ByteArray) (h : ((s.extract 0 1).toList == [32]) = false) : s = S (trimP s.data.toList) := by
  have h' : s.data.toList.take 1 ≠ [32] := by rw [← take_l, ← Lib.toList_data]; simpa using h
  apply S_eq
  unfold trimP
  rw [if_neg]
  cases hl : s.data.toList with
  | nil => simp
  | cons a t => rw [hl] at h'; simp at h'; simp [h']
theorem tp_nil (s : ByteArray) (h : ¬ 1 ≤ s.size) : s = S (trimP s.data.toList) := by
  have h0 : s.data.toList = [] := List.eq_nil_of_length_eq_zero (by rw [size_l]; omega)
  apply S_eq
  rw [h0]; rfl
theorem last_one (l : List UInt8) (h : 1 ≤ l.length) : l.drop (l.length - 1) = [l[l.length - 1]] := by
  rw [List.drop_eq_getElem_cons (by omega), List.drop_eq_nil_of_le (by omega)]
theorem ts_yes (s : ByteArray) (h1 : 1 ≤ s.size) (h : ((s.extract (s.size - 1) s.size).toList == [32]) = true) : s.extract 0 (s.size - 1) = S (trimS s.data.toList) := by
  have h' : s.data.toList.drop (s.size - 1) = [32] := by rw [← drop_l, ← Lib.toList_data]; simpa using h
  have hl := size_l s
  apply S_eq
  rw [take_l]
  unfold trimS
  rw [← hl] at h' h1 ⊢
  rw [last_one _ h1] at h'
  rw [if_pos, List.dropLast_eq_take]
  rw [List.getLast?_eq_getElem?, List.getElem?_eq_getElem (by omega)]
  simpa using h'
theorem ts_no (s : ByteArray) (h1 : 1 ≤ s.size) (h : ((s.extract (s.size - 1) s.size).toList == [32]) = false) : s = S (trimS s.data.toList) := by
  have h' : s.data.toList.drop (s.size - 1) ≠ [32] := by rw [← drop_l, ← Lib.toList_data]; simpa using h
  have hl := size_l s
  apply S_eq
  unfold trimS
  rw [← hl] at h' h1
  rw [last_one _ h1] at h'
  rw [if_neg]
  rw [List.getLast?_eq_getElem?, List.getElem?_eq_getElem (by omega)]
  simpa using h'
theorem ts_nil (s : ByteArray) (h : ¬ 1 ≤ s.size) : s = S (trimS s.data.toList) := by
  have h0 : s.data.toList = [] := List.eq_nil_of_length_eq_zero (by rw [size_l]; omega)
  apply S_eq
  rw [h0]; rfl

set_option maxHeartbeats 400000 in
theorem trimPrefix_any (s : ByteArray) (w : World) (hm : s.size ≤ maxLen) :
    Calls Tryz.prog 137 #[.string s, .string ⟨#[32]⟩] w fun e w' => e = .returned (.string (S (trimP s.data.toList))) ∧ w = w' := by
  unfold maxLen at hm
  by_cases h1 : 1 ≤ s.size
  · go_enter Tryz.func137, Tryz.ntmps137
    go_wp2
    · go_ret
      exact ⟨ret_str (tp_yes s ‹_›), rfl⟩
    · go_ret
      exact ⟨ret_str (tp_no s ‹_›), rfl⟩
  · go_enter Tryz.func137, Tryz.ntmps137
    go_wp2
    go_ret
    exact ⟨ret_str (tp_nil s h1), rfl⟩
set_option maxHeartbeats 400000 in
theorem trimSuffix_any (s : ByteArray) (w : World) (hm : s.size ≤ maxLen) :
    Calls Tryz.prog 136 #[.string s, .string ⟨#[32]⟩] w fun e w' => e = .returned (.string (S (trimS s.data.toList))) ∧ w = w' := by
  unfold maxLen at hm
  by_cases h1 : 1 ≤ s.size
  · go_enter Tryz.func136, Tryz.ntmps136
    go_wp2
    · go_ret
      exact ⟨ret_str (ts_yes s h1 ‹_›), rfl⟩
    · go_ret
      exact ⟨ret_str (ts_no s h1 ‹_›), rfl⟩
  · go_enter Tryz.func136, Tryz.ntmps136
    go_wp2
    go_ret
    exact ⟨ret_str (ts_nil s h1), rfl⟩

theorem trimP_len (l : List UInt8) : (trimP l).length ≤ l.length := by unfold trimP; split <;> simp
theorem trimS_len (l : List UInt8) : (trimS l).length ≤ l.length := by unfold trimS; split <;> simp
theorem squeeze_len (l : List UInt8) : (squeeze l).length ≤ l.length := by
  have h1 := TextMath.col_length l false
  have h2 := trimP_len (col false l)
  have h3 := trimS_len (trimP (col false l))
  unfold squeeze; omega
theorem normal_len (l : List UInt8) : (normal l).length ≤ l.length := by
  have := squeeze_len (fold l)
  rw [fold_len] at this; exact this

set_option maxHeartbeats 400000 in
theorem squeeze_any (s : ByteArray) (w : World) (hm : s.size ≤ 281474976710656) :
    Calls Tryz.prog 114 #[.string s] w fun e w' => e = .returned (.string (S (squeeze s.data.toList))) ∧ Below w.heap.size w w' := by
  have h1 : (S (col false s.data.toList)).size ≤ maxLen := by rw [S_size]; have := TextMath.col_length s.data.toList false; rw [size_l] at this; unfold maxLen; omega
  have h2 : (S (trimP (col false s.data.toList))).size ≤ maxLen := by
    rw [S_size] at h1 ⊢; have := trimP_len (col false s.data.toList); omega
  go_enter Tryz.func114, Tryz.ntmps114
  go_wp2_with fail
  refine (collapse_any s _ hm).mono ?_
  rintro e w1 ⟨rfl, hb⟩
  go_wp2_with fail
  refine (trimPrefix_any _ _ h1).mono ?_
  rintro e w2 ⟨rfl, rfl⟩
  rw [S_l]
  go_wp2_with fail
  refine (trimSuffix_any _ _ h2).mono ?_
  rintro e w2 ⟨rfl, rfl⟩
  rw [S_l]
  go_wp2_with fail
  go_ret
  exact ⟨rfl, hb⟩

set_option maxHeartbeats 400000 in
theorem normal_any (s : ByteArray) (w : World) (hm : s.size ≤ 281474976710656) :
    Calls Tryz.prog 91 #[.string s] w fun e w' => e = .returned (.string (S (normal s.data.toList))) ∧ Below w.heap.size w w' := by
  have h1 : (S (fold s.data.toList)).size ≤ 281474976710656 := by rw [S_size, fold_len, size_l]; exact hm
  go_enter Tryz.func91, Tryz.ntmps91
  go_wp2_with fail
  refine (fold_any s _ (by unfold maxLen; omega)).mono ?_
  rintro e w1 ⟨rfl, hb⟩
  go_wp2_with fail
  refine (squeeze_any _ _ h1).mono ?_
  rintro e w2 ⟨rfl, hb2⟩
  rw [S_l]
  go_wp2_with fail
  go_ret
  exact ⟨rfl, hb.trans (hb2.mono hb.size)⟩
end Go.Proofs.YtkecaeceeldcaaaGreatDoor
