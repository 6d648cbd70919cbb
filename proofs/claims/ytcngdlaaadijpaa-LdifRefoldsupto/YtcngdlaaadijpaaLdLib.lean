import Derived.Test.YtcngdlaaadijpaaLdOwn
import Derived.Test.YtcngdlaaadijpaaAtShelf
import Derived.Laws.RangeAny
import Derived.Lib.Bytealg
namespace Go.Proofs.Ytcngdlaaadijpaa
open Go.RowKit
open LdMath

theorem trim_eq (l : List UInt8) : Lib.trimSuffix l [13] = trimCR l := by
  unfold Lib.trimSuffix Lib.hasSuffix trimCR
  rcases List.eq_nil_or_concat l with rfl | ⟨k, x, rfl⟩
  · rfl
  · rw [List.concat_eq_append]
    by_cases h : x = 13
    · subst h
      rw [if_pos (by rw [List.isSuffixOf_iff_suffix]; exact ⟨k, rfl⟩), if_pos (by simp)]
      simp
    · rw [if_neg, if_neg (by simpa using h)]
      rw [List.isSuffixOf_iff_suffix]
      rintro ⟨t, ht⟩
      have := congrArg List.getLast? ht
      simp at this
      exact h this.symm
theorem pre_eq (l : List UInt8) : Lib.hasPrefix l [32] = goes l := by
  unfold Lib.hasPrefix goes
  cases l with
  | nil => rfl
  | cons x l =>
    simp [List.isPrefixOf]
    rw [Bool.eq_iff_iff]
    simp
    exact ⟨fun h => h.symm, fun h => h.symm⟩
theorem cut_eq (l : List UInt8) (h : goes l = true) : Lib.trimPrefix l [32] = l.tail := by
  unfold Lib.trimPrefix
  rw [pre_eq, h]
  simp
theorem idx_eq (l : List UInt8) (c : UInt8) : decide (0 ≤ Lib.indexByte l c) = l.contains c := by
  induction l with
  | nil => rfl
  | cons x l ih =>
    unfold Lib.indexByte
    rw [List.contains_cons]
    by_cases h : x = c
    · subst h; simp
    · have h1 : (x == c) = false := by simpa using h
      have h2 : (c == x) = false := by simpa using fun e => h e.symm
      rw [h1, h2, Bool.false_or, ← ih]
      have hg := Lib.indexByte_ge l c
      rw [if_neg (by simp)]
      by_cases hm : Lib.indexByte l c = -1
      · rw [if_pos (by simpa using hm), hm]
      · rw [if_neg (by simpa using hm), Bool.eq_iff_iff]
        simp
        omega

/-- A rune of a byte above 127 goes over such bytes alone. -/
theorem decode_run (s : ByteArray) (pos : Nat) (h : pos < s.size) (ha : 128 ≤ (s[pos]'h).toNat) : 1 ≤ (Utf8.decode s pos).2 ∧ pos + (Utf8.decode s pos).2 ≤ s.size ∧ ∀ k, k < (Utf8.decode s pos).2 → 128 ≤ (s.get! (pos + k)).toNat := by
  have h0 : 128 ≤ (s.get! (pos + 0)).toNat := by rw [get_at s pos h]; exact ha
  have hn : ¬ (s.get! (pos + 0)).toNat < 128 := by omega
  have k1 : ∀ k, k < 1 → 128 ≤ (s.get! (pos + k)).toNat := fun k hk => by
    have : k = 0 := by omega
    subst this; exact h0
  simp only [Utf8.decode, hn, if_false]
  split
  · rename_i h1
    simp only [Bool.and_eq_true, decide_eq_true_eq, beq_iff_eq] at h1
    split
    · refine ⟨by simp, by simp only; omega, fun k hk => ?_⟩
      rcases (by simp only at hk; omega : k = 0 ∨ k = 1) with rfl | rfl
      · exact h0
      · omega
    · exact ⟨by simp, by simp only; omega, k1⟩
  · split
    · rename_i h1
      simp only [Bool.and_eq_true, decide_eq_true_eq, beq_iff_eq] at h1
      split
      · refine ⟨by simp, by simp only; omega, fun k hk => ?_⟩
        rcases (by simp only at hk; omega : k = 0 ∨ k = 1 ∨ k = 2) with rfl | rfl | rfl
        · exact h0
        · omega
        · omega
      · exact ⟨by simp, by simp only; omega, k1⟩
    · split
      · rename_i h1
        simp only [Bool.and_eq_true, decide_eq_true_eq, beq_iff_eq] at h1
        split
        · refine ⟨by simp, by simp only; omega, fun k hk => ?_⟩
          rcases (by simp only at hk; omega : k = 0 ∨ k = 1 ∨ k = 2 ∨ k = 3) with rfl | rfl | rfl | rfl
          · exact h0
          · omega
          · omega
          · omega
        · exact ⟨by simp, by simp only; omega, k1⟩
      · exact ⟨by simp, by simp only; omega, k1⟩
theorem byte_l (s : ByteArray) (i : Nat) (h : i < s.size) : s.data.toList[i]? = some (s.get! i) := by
  have h' : i < s.data.size := h
  have e : s.get! i = s[i] := by simp [ByteArray.get!, getElem!_pos, h]; rfl
  rw [e]
  simp [Array.getElem?_eq_getElem h']
  rfl
theorem high_skip (s : ByteArray) (pos : Nat) (h : pos < s.size) (ha : 128 ≤ (s[pos]'h).toNat) : lo s.data.toList (pos + (Utf8.decode s pos).2) = lo s.data.toList pos ∧ pl s.data.toList (pos + (Utf8.decode s pos).2) = pl s.data.toList pos := by
  obtain ⟨h1, h2, h3⟩ := decode_run s pos h ha
  refine skip _ _ _ (fun k hk e => ?_)
  rw [byte_l s (pos + k) (by omega)] at e
  injection e with e
  have := h3 k hk
  rw [e] at this
  revert this
  decide
theorem get_at' (s : ByteArray) (i : Nat) (h : i < s.size) : s.data.toList[i]? = some (s[i]'h) := by
  rw [byte_l s i h]
  simp [ByteArray.get!, getElem!_pos, h]
  rfl
theorem extr_l (s : ByteArray) (i j : Nat) : (s.extract i j).data.toList = (s.data.toList.take j).drop i := by
  rw [Lib.extract_data]
  simp [List.drop_take]
end Go.Proofs.Ytcngdlaaadijpaa
