import Derived.Test.YtfmhcgadgakbhaaGreatDoorFxA
import Derived.Test.YtfmhcgadgakbhaaGreatDoorFxB
import Derived.Test.YtfmhcgadgakbhaaGreatDoorFxJ
namespace Go.Proofs.YtfmhcgadgakbhaaGreatDoor
open Go.RowKit
open TextMath (col bl)

theorem bl_eq (c : UInt8) : bl c = (decide ((9 : Int) ≤ c.toNat) && decide ((c.toNat : Int) ≤ 13) || ((c.toNat : Int) == 32)) := by
  unfold bl
  rw [Bool.eq_iff_iff]
  simp only [Bool.or_eq_true, Bool.and_eq_true, decide_eq_true_eq, beq_iff_eq]
  omega

set_option maxHeartbeats 400000 in
theorem blank_any (c : UInt8) (w : World) :
    Calls Tryz.prog 101 #[.int .u8 (c.toNat : Int)] w fun e w' => e = .returned (.bool (bl c)) ∧ w = w' := by
  have hc256 : c.toNat < 256 := c.toNat_lt
  rw [bl_eq]
  generalize c.toNat = n at *
  by_cases h1 : (9 : Int) ≤ n
  · by_cases h2 : (n : Int) ≤ 13
    · go_enter Tryz.func101, Tryz.ntmps101
      go_wp2
      go_ret
      refine ⟨ret_bool ?_, rfl⟩
      simp [h1, h2]
    · have d2 : decide ((n : Int) ≤ 13) = false := by simpa using h2
      go_enter Tryz.func101, Tryz.ntmps101
      go_wp2
      all_goals
        go_ret
        refine ⟨ret_bool ?_, rfl⟩
        simp_all
  · have d1 : decide ((9 : Int) ≤ n) = false := by simpa using h1
    go_enter Tryz.func101, Tryz.ntmps101
    go_wp2
    all_goals
      go_ret
      refine ⟨ret_bool ?_, rfl⟩
      simp_all

theorem col_keep (l o : List UInt8) (k : Nat) (hk : k < l.length) (r : Bool) (h : col false l = o ++ col r (l.drop k)) (hb : bl l[k] = false) : col false l = (o ++ [l[k]]) ++ col false (l.drop (k + 1)) := by
  rw [h, List.drop_eq_getElem_cons hk]; simp [col, hb]
theorem col_space (l o : List UInt8) (k : Nat) (hk : k < l.length) (h : col false l = o ++ col false (l.drop k)) (hb : bl l[k] = true) : col false l = (o ++ [32]) ++ col true (l.drop (k + 1)) := by
  rw [h, List.drop_eq_getElem_cons hk]; simp [col, hb]
theorem col_skip (l o : List UInt8) (k : Nat) (hk : k < l.length) (h : col false l = o ++ col true (l.drop k)) (hb : bl l[k] = true) : col false l = o ++ col true (l.drop (k + 1)) := by
  rw [h, List.drop_eq_getElem_cons hk]; simp [col, hb]

set_option maxHeartbeats 1000000 in
theorem collapse_any (s : ByteArray) (w : World) (hm : s.size ≤ 281474976710656) :
    Calls Tryz.prog 68 #[.string s] w fun e w' => e = .returned (.string (S (col false s.data.toList))) ∧ Below w.heap.size w w' := by
  have hL : Hid (s.data.toList.length = s.size) := size_l s
  obtain ⟨i0, hi, hz0, hz1, hz2⟩ := info_parts info_u8
  go_enter Tryz.func68, Tryz.ntmps68
  go_wp2_with (at_make; refine wpList_make_own _ rfl _ _ 60 rfl w.heap.size 5 i0 (.int .u8 0) 1 Tryz.underlying60 hi hz0 hz1 _ _ _ s.size rfl rfl rfl ?_ ?_ ?_ ?_; (rw [hz2]; omega); (unfold maxLen; omega); (exact Nat.le_refl _); intro w1 hown1 hgrow1)
  have hb1 : Below w.heap.size w w1 := (Below.refl _ _).grown hgrow1 (Nat.le_refl _) (fun k h => by cases h)
  go_loopw [3, 4, 5] (fun out run i wr => ∃ (k : Nat) (o : List UInt8) (r : Bool), k ≤ s.size ∧ i = .int .i64 k ∧ run = .bool r ∧ out = .slice (some ⟨w.heap.size, 0, none⟩) o.length s.size ∧ o.length ≤ k ∧ Below w.heap.size w wr ∧ w.heap.size < wr.heap.size ∧ wr.ownsRow w.heap.size 5 1 (.slice (some ⟨w.heap.size, 0, none⟩) o.length s.size) o.length (bv o) ∧ Hid (col false s.data.toList = o ++ col r (s.data.toList.drop k))) (fun _ _ i _ => s.size - (intOf i).toNat)
  case atStart => exact ⟨0, [], false, Nat.zero_le _, rfl, rfl, rfl, Nat.zero_le _, hb1, (hown1.lt _ rfl).2, hown1, by unfold Hid; simp⟩
  case round =>
    clear hown1 hgrow1 hb1
    obtain ⟨k, o, r, hk, rfl, rfl, rfl, ho, hb, hgs, hown, hcol⟩ := hrel
    have hgs' : w.heap.size ≤ wr.heap.size := by omega
    by_cases hlt : k < s.size
    · have hkl : k < s.data.toList.length := by rw [hL.out]; exact hlt
      have hget : s.data.toList[k] = s[k] := rfl
      have e32 : Hid (bv (o ++ [32]) = bv o ++ [.int .u8 32]) := by unfold Hid; rw [bv_app]; rfl
      have ec : Hid (bv (o ++ [s[k]]) = bv o ++ [.int .u8 (s[k].toNat : Int)]) := by unfold Hid; rw [bv_app]; rfl
      have hlen : ∀ c : UInt8, (o ++ [c]).length = o.length + 1 := by intro c; simp
      by_cases hbl : bl s[k] = true
      · cases r
        · have HC := col_space _ o k hkl hcol.out hbl
          have HC' : Hid (_ = _) := HC
          clear HC hcol
          go_wp2_with (first | (go_at_call 101; refine (blank_any _ _).mono ?_; rintro e w' ⟨rfl, rfl⟩; rw [hbl]) | (at_builtin; refine wpList_append_fits _ rfl _ _ 60 rfl w.heap.size 5 i0 1 Tryz.underlying60 hi hz1 w.heap.size o.length s.size _ rfl (hown.alloc _) ⟨wr.heap.size, 0, none⟩ 1 1 [.int .u8 32] rfl rfl ?_ ?_ ?_ ?_; exact cell_one_new _ _ _; (intro u hu; simp at hu; subst hu; rfl); omega; intro w1 hown1 hgrow1))
          go_roundw
          case rel =>
            refine ⟨k + 1, o ++ [32], true, by omega, by go_num, rfl, by rw [hlen], by rw [hlen]; omega, ?_, ?_, ?_, HC'.out⟩
            · exact (hb.alloc hgs' _).grown hgrow1 (by simp; omega) (fun k h => by injection h with h; omega)
            · have := hgrow1.size; simp at this; omega
            · rw [hlen, e32.out]; exact hown1
          case measure => simp [intOf]; omega
        · have HC := col_skip _ o k hkl hcol.out hbl
          have HC' : Hid (_ = _) := HC
          clear HC hcol
          go_wp2_with (go_at_call 101; refine (blank_any _ _).mono ?_; rintro e w' ⟨rfl, rfl⟩; rw [hbl])
          go_roundw
          case rel => exact ⟨k + 1, o, true, by omega, by go_num, rfl, rfl, by omega, hb, hgs, hown, HC'.out⟩
          case measure => simp [intOf]; omega
      · have hbl' : bl s[k] = false := by simpa using hbl
        have HC := col_keep _ o k hkl r hcol.out hbl'
        have HC' : Hid (_ = _) := HC
        clear HC hcol hbl
        go_wp2_with (first | (go_at_call 101; refine (blank_any _ _).mono ?_; rintro e w' ⟨rfl, rfl⟩; rw [hbl']) | (at_builtin; refine wpList_append_fits _ rfl _ _ 60 rfl w.heap.size 5 i0 1 Tryz.underlying60 hi hz1 w.heap.size o.length s.size _ rfl (hown.alloc _) ⟨wr.heap.size, 0, none⟩ 1 1 [.int .u8 (s[k].toNat : Int)] rfl rfl ?_ ?_ ?_ ?_; exact cell_one_new _ _ _; (intro u hu; simp at hu; subst hu; rfl); omega; intro w1 hown1 hgrow1))
        go_roundw
        case rel =>
          refine ⟨k + 1, o ++ [s[k]], false, by omega, by go_num, rfl, by rw [hlen], by rw [hlen]; omega, ?_, ?_, ?_, HC'.out⟩
          · exact (hb.alloc hgs' _).grown hgrow1 (by simp; omega) (fun k h => by injection h with h; omega)
          · have := hgrow1.size; simp at this; omega
          · rw [hlen, ec.out]; exact hown1
        case measure => simp [intOf]; omega
    · have hc := hcol.out
      rw [List.drop_eq_nil_of_le (by rw [hL.out]; omega)] at hc
      have hc2 : col false s.data.toList = o := by rw [hc]; simp [col]
      have hback := own_back (P := Tryz.prog) wr w.heap.size 60 9 5 w.heap.size o.length s.size o Tryz.underlying60 Tryz.underlying5 Tryz.underlying9 hown
      have HC2 : Hid (_ = _) := hc2
      clear hc hc2 hcol hown
      go_wp2
      go_ret
      exact ⟨ret_str (by rw [HC2.out]), hb⟩
end Go.Proofs.YtfmhcgadgakbhaaGreatDoor

namespace Go.Proofs.YtfmhcgadgakbhaaGreatDoor
open Go.RowKit
open TextMath (trimP trimS fold col squeeze normal)

theorem tp_yes (s : ByteArray) (h : ((s.extract 0 1).toList == [32]) = true) : s.extract 1 s.size = S (trimP s.data.toList) := by
  have h' : s.data.toList.take 1 = [32] := by rw [← take_l, ← Lib.toList_data]; simpa using h
  apply S_eq
  rw [drop_l]
  unfold trimP
  rw [if_pos]
  cases hl : s.data.toList with
  | nil => rw [hl] at h'; simp at h'
  | cons a t => rw [hl] at h'; simp at h'; simp [h']
theorem tp_no (s : ByteArray) (h : ((s.extract 0 1).toList == [32]) = false) : s = S (trimP s.data.toList) := by
  have h' : s.data.toList.take 1 ≠ [32] := by rw [← take_l, ← Lib.toList_data]; simpa using h
  apply S_eq
  unfold trimP
  rw [if_neg]
  cases hl : s.data.toList with
  | nil => simp
  | cons a t => rw [hl] at h'; simp at h'; simp [h']
theorem tp_nil (s : ByteArray) (h : ¬ 1 ≤ s.size) : s = S (trimP s.data.toList) := by
  have h0 : s.data.toList = [] := List.eq_nil_of_length_eq_zero (by rw [size_l]; omega)
  apply S_eq
  rw [h0]; rfl
theorem last_one (l : List UInt8) (h : 1 ≤ l.length) : l.drop (l.length - 1) = [l[l.length - 1]] := by
  rw [List.drop_eq_getElem_cons (by omega), List.drop_eq_nil_of_le (by omega)]
theorem ts_yes (s : ByteArray) (h1 : 1 ≤ s.size) (h : ((s.extract (s.size - 1) s.size).toList == [32]) = true) : s.extract 0 (s.size - 1) = S (trimS s.data.toList) := by
  have h' : s.data.toList.drop (s.size - 1) = [32] := by rw [← drop_l, ← Lib.toList_data]; simpa using h
  have hl := size_l s
  apply S_eq
  rw [take_l]
  unfold trimS
  rw [← hl] at h' h1 ⊢
  rw [last_one _ h1] at h'
  rw [if_pos, List.dropLast_eq_take]
  rw [List.getLast?_eq_getElem?, List.getElem?_eq_getElem (by omega)]
  simpa using h'
theorem ts_no (s : ByteArray) (h1 : 1 ≤ s.size) (h : ((s.extract (s.size - 1) s.size).toList == [32]) = false) : s = S (trimS s.data.toList) := by
  have h' : s.data.toList.drop (s.size - 1) ≠ [32] := by rw [← drop_l, ← Lib.toList_data]; simpa using h
  have hl := size_l s
  apply S_eq
  unfold trimS
  rw [← hl] at h' h1
  rw [last_one _ h1] at h'
  rw [if_neg]
  rw [List.getLast?_eq_getElem?, List.getElem?_eq_getElem (by omega)]
  simpa using h'
theorem ts_nil (s : ByteArray) (h : ¬ 1 ≤ s.size) : s = S (trimS s.data.toList) := by
  have h0 : s.data.toList = [] := List.eq_nil_of_length_eq_zero (by rw [size_l]; omega)
  apply S_eq
  rw [h0]; rfl

set_option maxHeartbeats 400000 in
theorem trimPrefix_any (s : ByteArray) (w : World) (hm : s.size ≤ maxLen) :
    Calls Tryz.prog 67 #[.string s, .string ⟨#[32]⟩] w fun e w' => e = .returned (.string (S (trimP s.data.toList))) ∧ w = w' := by
  unfold maxLen at hm
  by_cases h1 : 1 ≤ s.size
  · go_enter Tryz.func67, Tryz.ntmps67
    go_wp2
    · go_ret
      exact ⟨ret_str (tp_yes s ‹_›), rfl⟩
    · go_ret
      exact ⟨ret_str (tp_no s ‹_›), rfl⟩
  · go_enter Tryz.func67, Tryz.ntmps67
    go_wp2
    go_ret
    exact ⟨ret_str (tp_nil s h1), rfl⟩
set_option maxHeartbeats 400000 in
theorem trimSuffix_any (s : ByteArray) (w : World) (hm : s.size ≤ maxLen) :
    Calls Tryz.prog 66 #[.string s, .string ⟨#[32]⟩] w fun e w' => e = .returned (.string (S (trimS s.data.toList))) ∧ w = w' := by
  unfold maxLen at hm
  by_cases h1 : 1 ≤ s.size
  · go_enter Tryz.func66, Tryz.ntmps66
    go_wp2
    · go_ret
      exact ⟨ret_str (ts_yes s h1 ‹_›), rfl⟩
    · go_ret
      exact ⟨ret_str (ts_no s h1 ‹_›), rfl⟩
  · go_enter Tryz.func66, Tryz.ntmps66
    go_wp2
    go_ret
    exact ⟨ret_str (ts_nil s h1), rfl⟩

theorem trimP_len (l : List UInt8) : (trimP l).length ≤ l.length := by unfold trimP; split <;> simp
theorem trimS_len (l : List UInt8) : (trimS l).length ≤ l.length := by unfold trimS; split <;> simp
theorem squeeze_len (l : List UInt8) : (squeeze l).length ≤ l.length := by
  have h1 := TextMath.col_length l false
  have h2 := trimP_len (col false l)
  have h3 := trimS_len (trimP (col false l))
  unfold squeeze; omega
theorem normal_len (l : List UInt8) : (normal l).length ≤ l.length := by
  have := squeeze_len (fold l)
  rw [fold_len] at this; exact this

set_option maxHeartbeats 400000 in
theorem squeeze_any (s : ByteArray) (w : World) (hm : s.size ≤ 281474976710656) :
    Calls Tryz.prog 42 #[.string s] w fun e w' => e = .returned (.string (S (squeeze s.data.toList))) ∧ Below w.heap.size w w' := by
  have h1 : (S (col false s.data.toList)).size ≤ maxLen := by rw [S_size]; have := TextMath.col_length s.data.toList false; rw [size_l] at this; unfold maxLen; omega
  have h2 : (S (trimP (col false s.data.toList))).size ≤ maxLen := by
    rw [S_size] at h1 ⊢; have := trimP_len (col false s.data.toList); omega
  go_enter Tryz.func42, Tryz.ntmps42
  go_wp2_with fail
  refine (collapse_any s _ hm).mono ?_
  rintro e w1 ⟨rfl, hb⟩
  go_wp2_with fail
  refine (trimPrefix_any _ _ h1).mono ?_
  rintro e w2 ⟨rfl, rfl⟩
  rw [S_l]
  go_wp2_with fail
  refine (trimSuffix_any _ _ h2).mono ?_
  rintro e w2 ⟨rfl, rfl⟩
  rw [S_l]
  go_wp2_with fail
  go_ret
  exact ⟨rfl, hb⟩

set_option maxHeartbeats 400000 in
theorem normal_any (s : ByteArray) (w : World) (hm : s.size ≤ 281474976710656) :
    Calls Tryz.prog 24 #[.string s] w fun e w' => e = .returned (.string (S (normal s.data.toList))) ∧ Below w.heap.size w w' := by
  have h1 : (S (fold s.data.toList)).size ≤ 281474976710656 := by rw [S_size, fold_len, size_l]; exact hm
  go_enter Tryz.func24, Tryz.ntmps24
  go_wp2_with fail
  refine (fold_any s _ (by unfold maxLen; omega)).mono ?_
  rintro e w1 ⟨rfl, hb⟩
  go_wp2_with fail
  refine (squeeze_any _ _ h1).mono ?_
  rintro e w2 ⟨rfl, hb2⟩
  rw [S_l]
  go_wp2_with fail
  go_ret
  exact ⟨rfl, hb.trans (hb2.mono hb.size)⟩
end Go.Proofs.YtfmhcgadgakbhaaGreatDoor

namespace Go.Proofs.YtfmhcgadgakbhaaGreatDoor
open Go.RowKit
open TextMath (fold lo col bl trimP trimS squeeze normal)
set_option maxRecDepth 100000

theorem bl_eq2 (c : UInt8) : bl c = (((c.toNat : Int) == 32) || decide ((9 : Int) ≤ c.toNat) && decide ((c.toNat : Int) ≤ 13)) := by
  rw [bl_eq, Bool.or_comm]

set_option maxHeartbeats 400000 in
theorem rBlank_any (c : UInt8) (w : World) :
    Calls Tryz.prog 85 #[.int .u8 (c.toNat : Int)] w fun e w' => e = .returned (.bool (bl c)) ∧ w = w' := by
  have hc256 : c.toNat < 256 := c.toNat_lt
  rw [bl_eq2]
  generalize c.toNat = n at *
  by_cases h0 : ((n : Int) == 32) = true
  · go_enter Tryz.func85, Tryz.ntmps85
    go_wp2
    go_ret
    exact ⟨ret_bool (by simp [h0]), rfl⟩
  · have h0' : ((n : Int) == 32) = false := by simpa using h0
    clear h0
    by_cases h1 : (9 : Int) ≤ n
    · by_cases h2 : (n : Int) ≤ 13
      · go_enter Tryz.func85, Tryz.ntmps85
        go_wp2
        go_ret
        exact ⟨ret_bool (by simp [h1, h2]), rfl⟩
      · have d2 : decide ((n : Int) ≤ 13) = false := by simpa using h2
        go_enter Tryz.func85, Tryz.ntmps85
        go_wp2
        go_ret
        exact ⟨ret_bool (by simp), rfl⟩
    · have d1 : decide ((9 : Int) ≤ n) = false := by simpa using h1
      go_enter Tryz.func85, Tryz.ntmps85
      go_wp2
      go_ret
      exact ⟨ret_bool (by simp), rfl⟩

/-- Is the byte ahead of place k a blank? -/
def ran (l : List UInt8) (k : Nat) : Bool := decide (0 < k) && bl (l.getD (k - 1) 0)
theorem ran_zero (l : List UInt8) : ran l 0 = false := rfl
theorem ran_succ (l : List UInt8) (k : Nat) (h : k < l.length) : ran l (k + 1) = bl l[k] := by
  unfold ran; simp [List.getD, List.getElem?_eq_getElem h]
theorem ran_pos (s : ByteArray) (k : Nat) (h : k - 1 < s.size) (hp : 0 < k) : ran s.data.toList k = bl s[k - 1] := by
  unfold ran; rw [getD_s s (k - 1) h]; simp [hp]

set_option maxHeartbeats 1000000 in
theorem rCollapse_any (s : ByteArray) (w : World) (hm : s.size ≤ 140737488355328) :
    Calls Tryz.prog 57 #[.string s] w fun e w' => e = .returned (.string (S (col false s.data.toList))) ∧ Below w.heap.size w w' := by
  have hL : Hid (s.data.toList.length = s.size) := size_l s
  obtain ⟨i0, hi, hz0, hz1, hz2⟩ := info_parts info_u8
  go_enter Tryz.func57, Tryz.ntmps57
  go_wp2
  go_loopw [3, 4] (fun out i wr => ∃ (k : Nat) (o : List UInt8), k ≤ s.size ∧ i = .int .i64 k ∧ o.length ≤ k ∧ Below w.heap.size w wr ∧ wr.ownsRow w.heap.size 5 1 out o.length (bv o) ∧ Hid (col false s.data.toList = o ++ col (ran s.data.toList k) (s.data.toList.drop k))) (fun _ i _ => s.size - (intOf i).toNat)
  case atStart => exact ⟨0, [], Nat.zero_le _, rfl, Nat.zero_le _, Below.refl _ _, World.ownsRow_nil _ _ _ _, by unfold Hid; simp [ran_zero]⟩
  case round =>
    obtain ⟨k, o, hk, rfl, ho, hb, hown, hcol⟩ := hrel
    have hgs' := hb.size
    by_cases hlt : k < s.size
    · have hkl : k < s.data.toList.length := by rw [hL.out]; exact hlt
      have hget : s.data.toList[k] = s[k] := rfl
      have e32 : Hid (bv (o ++ [32]) = bv o ++ [.int .u8 32]) := by unfold Hid; rw [bv_app]; rfl
      have ec : Hid (bv (o ++ [s[k]]) = bv o ++ [.int .u8 (s[k].toNat : Int)]) := by unfold Hid; rw [bv_app]; rfl
      have hlen : ∀ c : UInt8, (o ++ [c]).length = o.length + 1 := by intro c; simp
      have hrs := ran_succ _ k hkl
      rw [hget] at hrs
      by_cases hbl : bl s[k] = true
      · rw [hbl] at hrs
        cases hr : ran s.data.toList k
        · rw [hr] at hcol
          have HC := col_space _ o k hkl hcol.out hbl
          rw [← hrs] at HC
          have HC' : Hid (_ = _) := HC
          clear HC hcol hrs
          by_cases hk0 : k = 0
          · subst hk0
            clear hr
            go_wp2_with (first | (go_at_call 85; refine (rBlank_any _ _).mono ?_; rintro e w' ⟨rfl, rfl⟩; rw [hbl]) | (at_builtin; refine wpList_append_own _ rfl _ _ 60 rfl w.heap.size 5 i0 (.int .u8 0) 1 1 Tryz.underlying60 hi hz0 hz1 hz2 rfl (by decide) _ _ _ rfl (hown.alloc _) ⟨wr.heap.size, 0, none⟩ 1 1 [.int .u8 32] rfl rfl ?_ ?_ ?_ ?_ ?_ ?_; exact cell_one_new _ _ _; (intro u hu; simp at hu; subst hu; rfl); (unfold maxLen; omega); omega; (simp; omega); intro v1 w1 hown1 hgrow1 _))
            go_roundw
            case rel =>
              refine ⟨0 + 1, o ++ [32], by omega, by go_num, by rw [hlen]; omega, ?_, ?_, HC'.out⟩
              · exact (hb.alloc hgs' _).grown hgrow1 (by simp; omega) (fun j h => (hown.lt j h).1)
              · rw [hlen, e32.out]; exact hown1
            case measure => simp [intOf]; omega
          · have hz : (((k : Nat) : Int) == 0) = false := by simp; omega
            have hp : (0 : Int) < k := by omega
            have hprev : bl s[k - 1] = false := by rw [← ran_pos s k (by omega) (by omega)]; exact hr
            have hidx : ((k : Int) - 1).toNat = k - 1 := by omega
            clear hr
            go_wp2_with (first | (go_at_call 85; refine (rBlank_any _ _).mono ?_; rintro e w' ⟨rfl, rfl⟩; first | rw [hbl] | rw [hprev]) | (at_builtin; refine wpList_append_own _ rfl _ _ 60 rfl w.heap.size 5 i0 (.int .u8 0) 1 1 Tryz.underlying60 hi hz0 hz1 hz2 rfl (by decide) _ _ _ rfl (hown.alloc _) ⟨wr.heap.size, 0, none⟩ 1 1 [.int .u8 32] rfl rfl ?_ ?_ ?_ ?_ ?_ ?_; exact cell_one_new _ _ _; (intro u hu; simp at hu; subst hu; rfl); (unfold maxLen; omega); omega; (simp; omega); intro v1 w1 hown1 hgrow1 _))
            go_roundw
            case rel =>
              refine ⟨k + 1, o ++ [32], by omega, by go_num, by rw [hlen]; omega, ?_, ?_, HC'.out⟩
              · exact (hb.alloc hgs' _).grown hgrow1 (by simp; omega) (fun j h => (hown.lt j h).1)
              · rw [hlen, e32.out]; exact hown1
            case measure => simp [intOf]; omega
        · rw [hr] at hcol
          have HC := col_skip _ o k hkl hcol.out hbl
          rw [← hrs] at HC
          have HC' : Hid (_ = _) := HC
          clear HC hcol hrs
          have hk0 : 0 < k := by
            by_cases h : k = 0
            · subst h; rw [ran_zero] at hr; cases hr
            · omega
          have hz : (((k : Nat) : Int) == 0) = false := by simp; omega
          have hp : (0 : Int) < k := by omega
          have hprev : bl s[k - 1] = true := by rw [← ran_pos s k (by omega) (by omega)]; exact hr
          have hidx : ((k : Int) - 1).toNat = k - 1 := by omega
          clear hr
          go_wp2_with (go_at_call 85; refine (rBlank_any _ _).mono ?_; rintro e w' ⟨rfl, rfl⟩; first | rw [hbl] | rw [hprev])
          go_roundw
          case rel => exact ⟨k + 1, o, by omega, by go_num, by omega, hb, hown, HC'.out⟩
          case measure => simp [intOf]; omega
      · have hbl' : bl s[k] = false := by simpa using hbl
        rw [hbl'] at hrs
        have HC : col false s.data.toList = (o ++ [s[k]]) ++ col (ran s.data.toList (k + 1)) (s.data.toList.drop (k + 1)) := by rw [hrs]; exact col_keep _ o k hkl _ hcol.out hbl'
        have HC' : Hid (_ = _) := HC
        clear HC hcol hbl hrs
        go_wp2_with (first | (go_at_call 85; refine (rBlank_any _ _).mono ?_; rintro e w' ⟨rfl, rfl⟩; rw [hbl']) | (at_builtin; refine wpList_append_own _ rfl _ _ 60 rfl w.heap.size 5 i0 (.int .u8 0) 1 1 Tryz.underlying60 hi hz0 hz1 hz2 rfl (by decide) _ _ _ rfl (hown.alloc _) ⟨wr.heap.size, 0, none⟩ 1 1 [.int .u8 (s[k].toNat : Int)] rfl rfl ?_ ?_ ?_ ?_ ?_ ?_; exact cell_one_new _ _ _; (intro u hu; simp at hu; subst hu; rfl); (unfold maxLen; omega); omega; (simp; omega); intro v1 w1 hown1 hgrow1 _))
        go_roundw
        case rel =>
          refine ⟨k + 1, o ++ [s[k]], by omega, by go_num, by rw [hlen]; omega, ?_, ?_, HC'.out⟩
          · exact (hb.alloc hgs' _).grown hgrow1 (by simp; omega) (fun j h => (hown.lt j h).1)
          · rw [hlen, ec.out]; exact hown1
        case measure => simp [intOf]; omega
    · have hc := hcol.out
      rw [List.drop_eq_nil_of_le (by rw [hL.out]; omega)] at hc
      have hc2 : col false s.data.toList = o := by rw [hc]; simp [col]
      have hback := own_back_any (P := Tryz.prog) wr w.heap.size 60 9 5 _ _ _ Tryz.underlying60 Tryz.underlying5 Tryz.underlying9 hown
      have HC2 : Hid (_ = _) := hc2
      clear hc hc2 hcol hown
      go_wp2
      go_ret
      exact ⟨ret_str (by rw [HC2.out]), hb⟩
end Go.Proofs.YtfmhcgadgakbhaaGreatDoor

namespace Go.Proofs.YtfmhcgadgakbhaaGreatDoor
open Go.RowKit
open TextMath (fold lo col bl trimP trimS squeeze normal)

theorem trimP_if (l : List UInt8) : trimP l = l.drop (if l.getD 0 0 = 32 then 1 else 0) := by
  cases l with
  | nil => simp [trimP]
  | cons a t =>
    unfold trimP
    by_cases h : a = 32 <;> simp [h]
theorem trimS_drop (c : List UInt8) (p : Nat) : trimS (c.drop p) = (c.drop p).take ((if p < c.length ∧ c.getD (c.length - 1) 0 = 32 then c.length - 1 else c.length) - p) := by
  unfold trimS
  by_cases hp : p < c.length
  · have hl : (c.drop p).getLast? = some (c.getD (c.length - 1) 0) := by
      rw [List.getLast?_eq_getElem?, List.getElem?_drop, List.length_drop]
      have e : p + (c.length - p - 1) = c.length - 1 := by omega
      rw [e, List.getElem?_eq_getElem (by omega)]
      simp [List.getD, List.getElem?_eq_getElem (show c.length - 1 < c.length by omega)]
    rw [hl]
    by_cases h : c.getD (c.length - 1) 0 = 32
    · rw [if_pos (by rw [h]), if_pos ⟨hp, h⟩, List.dropLast_eq_take, List.length_drop]
      congr 1; omega
    · rw [if_neg (by intro hh; injection hh with hh; exact h hh), if_neg (fun hh => h hh.2), List.take_of_length_le (by simp)]
  · rw [List.drop_eq_nil_of_le (by omega)]
    simp
theorem sq_ext (T : ByteArray) (p q : Nat) (hp : p = if T.data.toList.getD 0 0 = 32 then 1 else 0) (hq : q = if p < T.data.toList.length ∧ T.data.toList.getD (T.data.toList.length - 1) 0 = 32 then T.data.toList.length - 1 else T.data.toList.length) :
    T.extract p q = S (trimS (trimP T.data.toList)) := by
  apply S_eq
  rw [Lib.extract_data, trimP_if, trimS_drop, ← hp, ← hq]
theorem ext_all (T : ByteArray) : T.extract 0 T.size = T := by
  rw [← S_of (T.extract 0 T.size), take_l, List.take_of_length_le (by rw [size_l]; exact Nat.le_refl _), S_of]
theorem u32 (c : UInt8) : ((c.toNat : Int) == 32) = true ↔ c = 32 := by
  rw [beq_iff_eq]
  constructor
  · intro h; apply UInt8.toNat_inj.1; have : (32 : UInt8).toNat = 32 := rfl; omega
  · rintro rfl; rfl

set_option maxHeartbeats 1000000 in
theorem rSqueeze_any (s : ByteArray) (w : World) (hm : s.size ≤ 140737488355328) :
    Calls Tryz.prog 35 #[.string s] w fun e w' => e = .returned (.string (S (squeeze s.data.toList))) ∧ Below w.heap.size w w' := by
  have hcl := TextMath.col_length s.data.toList false
  rw [size_l] at hcl
  have hsq : Hid (squeeze s.data.toList = trimS (trimP (S (col false s.data.toList)).data.toList)) := by unfold Hid; rw [S_l]; rfl
  have hts : (S (col false s.data.toList)).size ≤ s.size := by rw [S_size]; exact hcl
  have hcall := rCollapse_any s w hm
  have HC := hcall
  clear hcl
  generalize hT : S (col false s.data.toList) = T at *
  have HLN : Hid (T.data.toList.length = T.size) := size_l T
  have hcall2 : Hid (Calls Tryz.prog 57 #[.string s] w fun e w' => e = .returned (.string T) ∧ Below w.heap.size w w') := hcall
  clear hcall HC hT
  by_cases h0 : 0 < T.size
  · have g0 := getD_s T 0 h0
    have g1 := getD_s T (T.size - 1) (by omega)
    by_cases hf : ((T[0].toNat : Int) == 32) = true
    · have hf' := (u32 _).1 hf
      have p1 : (1 : Nat) = if T.data.toList.getD 0 0 = 32 then 1 else 0 := by rw [g0, if_pos hf']
      have P1 : Hid ((1 : Nat) = if T.data.toList.getD 0 0 = 32 then 1 else 0) := p1
      by_cases h1 : T.size = 1
      · have Q : Hid ((1 : Nat) = if 1 < T.data.toList.length ∧ T.data.toList.getD (T.data.toList.length - 1) 0 = 32 then T.data.toList.length - 1 else T.data.toList.length) := by
          have hlen := HLN.out; unfold Hid; rw [if_neg (by omega), hlen, h1]
        have h1' : Hid (T.size = 1) := h1
        have l1 : T.size ≤ 1 := by omega
        have l2 : 1 ≤ T.size := by omega
        clear h1 g0 g1 p1 hf'
        go_enter Tryz.func35, Tryz.ntmps35
        go_wp2_with (go_at_call 57; refine hcall2.out.mono ?_; rintro e w1 ⟨rfl, hb⟩)
        go_ret
        exact ⟨ret_str (by rw [hsq.out]; have h := sq_ext T 1 1 P1.out Q.out; rw [← h, h1'.out]), by assumption⟩
      · have l1 : 1 < T.size := by omega
        by_cases hlast : ((T[T.size - 1].toNat : Int) == 32) = true
        · have Q : Hid (T.size - 1 = if 1 < T.data.toList.length ∧ T.data.toList.getD (T.data.toList.length - 1) 0 = 32 then T.data.toList.length - 1 else T.data.toList.length) := by
            have hlen := HLN.out; unfold Hid; rw [hlen, g1, if_pos ⟨l1, (u32 _).1 hlast⟩]
          clear h1 g0 g1 p1 hf'
          go_enter Tryz.func35, Tryz.ntmps35
          go_wp2_with (go_at_call 57; refine hcall2.out.mono ?_; rintro e w1 ⟨rfl, hb⟩)
          go_ret
          exact ⟨ret_str (by rw [hsq.out]; exact sq_ext T 1 _ P1.out Q.out), by assumption⟩
        · have hlast' : ((T[T.size - 1].toNat : Int) == 32) = false := by simpa using hlast
          have Q : Hid (T.size = if 1 < T.data.toList.length ∧ T.data.toList.getD (T.data.toList.length - 1) 0 = 32 then T.data.toList.length - 1 else T.data.toList.length) := by
            have hlen := HLN.out; unfold Hid; rw [hlen, g1, if_neg (fun h => hlast ((u32 _).2 h.2))]
          clear h1 g0 g1 p1 hf' hlast
          go_enter Tryz.func35, Tryz.ntmps35
          go_wp2_with (go_at_call 57; refine hcall2.out.mono ?_; rintro e w1 ⟨rfl, hb⟩)
          go_ret
          exact ⟨ret_str (by rw [hsq.out]; exact sq_ext T 1 _ P1.out Q.out), by assumption⟩
    · have hf' : ((T[0].toNat : Int) == 32) = false := by simpa using hf
      have P1 : Hid ((0 : Nat) = if T.data.toList.getD 0 0 = 32 then 1 else 0) := by unfold Hid; rw [g0, if_neg (fun h => hf ((u32 _).2 h))]
      by_cases hlast : ((T[T.size - 1].toNat : Int) == 32) = true
      · have Q : Hid (T.size - 1 = if 0 < T.data.toList.length ∧ T.data.toList.getD (T.data.toList.length - 1) 0 = 32 then T.data.toList.length - 1 else T.data.toList.length) := by
          have hlen := HLN.out; unfold Hid; rw [hlen, g1, if_pos ⟨h0, (u32 _).1 hlast⟩]
        clear g0 g1 hf
        go_enter Tryz.func35, Tryz.ntmps35
        go_wp2_with (go_at_call 57; refine hcall2.out.mono ?_; rintro e w1 ⟨rfl, hb⟩)
        go_ret
        exact ⟨ret_str (by rw [hsq.out]; exact sq_ext T 0 _ P1.out Q.out), by assumption⟩
      · have hlast' : ((T[T.size - 1].toNat : Int) == 32) = false := by simpa using hlast
        have Q : Hid (T.size = if 0 < T.data.toList.length ∧ T.data.toList.getD (T.data.toList.length - 1) 0 = 32 then T.data.toList.length - 1 else T.data.toList.length) := by
          have hlen := HLN.out; unfold Hid; rw [hlen, g1, if_neg (fun h => hlast ((u32 _).2 h.2))]
        clear g0 g1 hf hlast
        go_enter Tryz.func35, Tryz.ntmps35
        go_wp2_with (go_at_call 57; refine hcall2.out.mono ?_; rintro e w1 ⟨rfl, hb⟩)
        go_ret
        exact ⟨ret_str (by rw [hsq.out, ← sq_ext T 0 _ P1.out Q.out, ext_all]), by assumption⟩
  · have hz : T.data.toList = [] := List.eq_nil_of_length_eq_zero (by rw [HLN.out]; omega)
    have hTe : Hid (T.extract 0 T.size = S (squeeze s.data.toList)) := by
      unfold Hid; rw [hsq.out, hz]
      apply S_eq; rw [Lib.extract_data, hz]; simp [trimS, trimP]
    clear hz
    go_enter Tryz.func35, Tryz.ntmps35
    go_wp2_with (go_at_call 57; refine hcall2.out.mono ?_; rintro e w1 ⟨rfl, hb⟩)
    go_ret
    exact ⟨ret_str (by rw [← hTe.out, ext_all]), by assumption⟩

set_option maxHeartbeats 400000 in
theorem rNormal_any (s : ByteArray) (w : World) (hm : s.size ≤ 140737488355328) :
    Calls Tryz.prog 17 #[.string s] w fun e w' => e = .returned (.string (S (normal s.data.toList))) ∧ Below w.heap.size w w' := by
  have h1 : (S (fold s.data.toList)).size ≤ 140737488355328 := by rw [S_size, fold_len, size_l]; exact hm
  go_enter Tryz.func17, Tryz.ntmps17
  go_wp2_with fail
  refine (rFold_any s _ hm).mono ?_
  rintro e w1 ⟨rfl, hb⟩
  go_wp2_with fail
  refine (rSqueeze_any _ _ h1).mono ?_
  rintro e w2 ⟨rfl, hb2⟩
  rw [S_l]
  go_wp2_with fail
  go_ret
  exact ⟨rfl, hb.trans (hb2.mono hb.size)⟩
end Go.Proofs.YtfmhcgadgakbhaaGreatDoor
