import Derived.Test.YtkknenmpdimdbaaGreatDoorFW8
import Derived.Test.YtkknenmpdimdbaaGreatDoorFW12
import Derived.Test.YtkknenmpdimdbaaGreatDoorKeShelf
import Derived.Test.YtkknenmpdimdbaaGreatDoorFW25
import Derived.Laws.MakeOwn
namespace Go.Proofs.YtkknenmpdimdbaaGreatDoor
open Go.RowKit
open TextMath (col bl)
theorem bl_eq (c : UInt8) : bl c = (decide ((9 : Int) ≤ c.toNat) && decide ((c.toNat : Int) ≤ 13) || ((c.toNat : Int) == 32)) := by
 unfold bl
 rw [Bool.eq_iff_iff]
 simp only [Bool.or_eq_true, Bool.and_eq_true, decide_eq_true_eq, beq_iff_eq]
 omega
set_option maxHeartbeats 400000 in
theorem blank_any (c : UInt8) (w : World) :
  Calls Tryz.prog 156 #[.int .u8 (c.toNat : Int)] w fun e w' => e = .returned (.bool (bl c)) ∧ w = w' := by
 have hc256 : c.toNat < 256 := c.toNat_lt
 rw [bl_eq]
 generalize c.toNat = n at *
 by_cases h1 : (9 : Int) ≤ n
 ·by_cases h2 : (n : Int) ≤ 13
  ·go_enter Tryz.func156, Tryz.ntmps156
   go_wp2
   go_ret
   refine ⟨ret_bool ?_, rfl⟩
   simp [h1, h2]
  ·have d2 : decide ((n : Int) ≤ 13) = false := by simpa using h2
   go_enter Tryz.func156, Tryz.ntmps156
   go_wp2
   all_goals
    go_ret
    refine ⟨ret_bool ?_, rfl⟩
    simp_all
 ·have d1 : decide ((9 : Int) ≤ n) = false := by simpa using h1
  go_enter Tryz.func156, Tryz.ntmps156
  go_wp2
  all_goals
   go_ret
   refine ⟨ret_bool ?_, rfl⟩
   simp_all
theorem col_keep (l o : List UInt8) (k : Nat) (hk : k < l.length) (r : Bool) (h : col false l = o ++ col r (l.drop k)) (hb : bl l[k] = false) : col false l = (o ++ [l[k]]) ++ col false (l.drop (k + 1)) := by
 rw [h, List.drop_eq_getElem_cons hk]; simp [col, hb]
theorem col_space (l o : List UInt8) (k : Nat) (hk : k < l.length) (h : col false l = o ++ col false (l.drop k)) (hb : bl l[k] = true) : col false l = (o ++ [32]) ++ col true (l.drop (k + 1)) := by
 rw [h, List.drop_eq_getElem_cons hk]; simp [col, hb]
theorem col_skip (l o : List UInt8) (k : Nat) (hk : k < l.length) (h : col false l = o ++ col true (l.drop k)) (hb : bl l[k] = true) : col false l = o ++ col true (l.drop (k + 1)) := by
 rw [h, List.drop_eq_getElem_cons hk]; simp [col, hb]
set_option maxHeartbeats 1000000 in
theorem collapse_any (s : ByteArray) (w : World) (hm : s.size ≤ 281474976710656) :
  Calls Tryz.prog 124 #[.string s] w fun e w' => e = .returned (.string (S (col false s.data.toList))) ∧ Below w.heap.size w w' := by
 have hL : Hid (s.data.toList.length = s.size) := size_l s
 obtain ⟨i0, hi, hz0, hz1, hz2⟩ := info_parts info_u8
 go_enter Tryz.func124, Tryz.ntmps124
 go_wp2_with (at_make; refine wpList_make_own _ rfl _ _ 87 rfl w.heap.size 5 i0 (.int .u8 0) 1 Tryz.underlying87 hi hz0 hz1 _ _ _ s.size rfl rfl rfl ?_ ?_ ?_ ?_; (rw [hz2]; omega); (unfold maxLen; omega); (exact Nat.le_refl _); intro w1 hown1 hgrow1)
 have hb1 : Below w.heap.size w w1 := (Below.refl _ _).grown hgrow1 (Nat.le_refl _) (fun k h => by cases h)
 go_loopw [3, 4, 5] (fun out run i wr => ∃ (k : Nat) (o : List UInt8) (r : Bool), k ≤ s.size ∧ i = .int .i64 k ∧ run = .bool r ∧ out = .slice (some ⟨w.heap.size, 0, none⟩) o.length s.size ∧ o.length ≤ k ∧ Below w.heap.size w wr ∧ w.heap.size < wr.heap.size ∧ wr.ownsRow w.heap.size 5 1 (.slice (some ⟨w.heap.size, 0, none⟩) o.length s.size) o.length (bv o) ∧ Hid (col false s.data.toList = o ++ col r (s.data.toList.drop k))) (fun _ _ i _ => s.size - (intOf i).toNat)
 case atStart => exact ⟨0, [], false, Nat.zero_le _, rfl, rfl, rfl, Nat.zero_le _, hb1, (hown1.lt _ rfl).2, hown1, by unfold Hid; simp⟩
 case round =>
  clear hown1 hgrow1 hb1
  obtain ⟨k, o, r, hk, rfl, rfl, rfl, ho, hb, hgs, hown, hcol⟩ := hrel
  have hgs' : w.heap.size ≤ wr.heap.size := by omega
  by_cases hlt : k < s.size
  ·have hkl : k < s.data.toList.length := by rw [hL.out]; exact hlt
   have hget : s.data.toList[k] = s[k] := rfl
   have e32 : Hid (bv (o ++ [32]) = bv o ++ [.int .u8 32]) := by unfold Hid; rw [bv_app]; rfl
   have ec : Hid (bv (o ++ [s[k]]) = bv o ++ [.int .u8 (s[k].toNat : Int)]) := by unfold Hid; rw [bv_app]; rfl
   have hlen : ∀ c : UInt8, (o ++ [c]).length = o.length + 1 := by intro c; simp
   by_cases hbl : bl s[k] = true
   ·cases r
    ·have HC := col_space _ o k hkl hcol.out hbl
     have HC' : Hid (_ = _) := HC
     clear HC hcol
     go_wp2_with (first | (go_at_call 156; refine (blank_any _ _).mono ?_; rintro e w' ⟨rfl, rfl⟩; rw [hbl]) | (at_builtin; refine wpList_append_fits _ rfl _ _ 87 rfl w.heap.size 5 i0 1 Tryz.underlying87 hi hz1 w.heap.size o.length s.size _ rfl (hown.alloc _) ⟨wr.heap.size, 0, none⟩ 1 1 [.int .u8 32] rfl rfl ?_ ?_ ?_ ?_; exact cell_one_new _ _ _; (intro u hu; simp at hu; subst hu; rfl); omega; intro w1 hown1 hgrow1))
     go_roundw
     case rel =>
      refine ⟨k + 1, o ++ [32], true, by omega, by go_num, rfl, by rw [hlen], by rw [hlen]; omega, ?_, ?_, ?_, HC'.out⟩
      ·exact (hb.alloc hgs' _).grown hgrow1 (by simp; omega) (fun k h => by injection h with h; omega)
      ·have := hgrow1.size; simp at this; omega
      ·rw [hlen, e32.out]; exact hown1
     case measure => simp [intOf]; omega
    ·have HC := col_skip _ o k hkl hcol.out hbl
     have HC' : Hid (_ = _) := HC
     clear HC hcol
     go_wp2_with (go_at_call 156; refine (blank_any _ _).mono ?_; rintro e w' ⟨rfl, rfl⟩; rw [hbl])
     go_roundw
     case rel => exact ⟨k + 1, o, true, by omega, by go_num, rfl, rfl, by omega, hb, hgs, hown, HC'.out⟩
     case measure => simp [intOf]; omega
   ·have hbl' : bl s[k] = false := by simpa using hbl
    have HC := col_keep _ o k hkl r hcol.out hbl'
    have HC' : Hid (_ = _) := HC
    clear HC hcol hbl
    go_wp2_with (first | (go_at_call 156; refine (blank_any _ _).mono ?_; rintro e w' ⟨rfl, rfl⟩; rw [hbl']) | (at_builtin; refine wpList_append_fits _ rfl _ _ 87 rfl w.heap.size 5 i0 1 Tryz.underlying87 hi hz1 w.heap.size o.length s.size _ rfl (hown.alloc _) ⟨wr.heap.size, 0, none⟩ 1 1 [.int .u8 (s[k].toNat : Int)] rfl rfl ?_ ?_ ?_ ?_; exact cell_one_new _ _ _; (intro u hu; simp at hu; subst hu; rfl); omega; intro w1 hown1 hgrow1))
    go_roundw
    case rel =>
     refine ⟨k + 1, o ++ [s[k]], false, by omega, by go_num, rfl, by rw [hlen], by rw [hlen]; omega, ?_, ?_, ?_, HC'.out⟩
     ·exact (hb.alloc hgs' _).grown hgrow1 (by simp; omega) (fun k h => by injection h with h; omega)
     ·have := hgrow1.size; simp at this; omega
     ·rw [hlen, ec.out]; exact hown1
    case measure => simp [intOf]; omega
  ·have hc := hcol.out
   rw [List.drop_eq_nil_of_le (by rw [hL.out]; omega)] at hc
   have hc2 : col false s.data.toList = o := by rw [hc]; simp [col]
   have hback := own_back (P := Tryz.prog) wr w.heap.size 87 9 5 w.heap.size o.length s.size o Tryz.underlying87 Tryz.underlying5 Tryz.underlying9 hown
   have HC2 : Hid (_ = _) := hc2
   clear hc hc2 hcol hown
   go_wp2
   go_ret
   exact ⟨ret_str (by rw [HC2.out]), hb⟩
end Go.Proofs.YtkknenmpdimdbaaGreatDoor

namespace Go.Proofs.YtkknenmpdimdbaaGreatDoor
open Go.RowKit
open TextMath (trimP trimS fold col squeeze normal)
theorem tp_yes (s : ByteArray) (h : ((s.extract 0 1).toList == [32]) = true) : s.extract 1 s.size = S (trimP s.data.toList) := by
 have h' : s.data.toList.take 1 = [32] := by rw [← take_l, ← Lib.toList_data]; simpa using h
 apply S_eq
 rw [drop_l]
 unfold trimP
 rw [if_pos]
 cases hl : s.data.toList with
 | nil => rw [hl] at h'; simp at h'
 | cons a t => rw [hl] at h'; simp at h'; simp [h']
theorem tp_no (s : ByteArray) (h : ((s.extract 0 1).toList == [32]) = false) : s = S (trimP s.data.toList) := by
 have h' : s.data.toList.take 1 ≠ [32] := by rw [← take_l, ← Lib.toList_data]; simpa using h
 apply S_eq
 unfold trimP
 rw [if_neg]
 cases hl : s.data.toList with
 | nil => simp
 | cons a t => rw [hl] at h'; simp at h'; simp [h']
theorem tp_nil (s : ByteArray) (h : ¬ 1 ≤ s.size) : s = S (trimP s.data.toList) := by
 have h0 : s.data.toList = [] := List.eq_nil_of_length_eq_zero (by rw [size_l]; omega)
 apply S_eq
 rw [h0]; rfl
theorem last_one (l : List UInt8) (h : 1 ≤ l.length) : l.drop (l.length - 1) = [l[l.length - 1]] := by
 rw [List.drop_eq_getElem_cons (by omega), List.drop_eq_nil_of_le (by omega)]
theorem ts_yes (s : ByteArray) (h1 : 1 ≤ s.size) (h : ((s.extract (s.size - 1) s.size).toList == [32]) = true) : s.extract 0 (s.size - 1) = S (trimS s.data.toList) := by
 have h' : s.data.toList.drop (s.size - 1) = [32] := by rw [← drop_l, ← Lib.toList_data]; simpa using h
 have hl := size_l s
 apply S_eq
 rw [take_l]
 unfold trimS
 rw [← hl] at h' h1 ⊢
 rw [last_one _ h1] at h'
 rw [if_pos, List.dropLast_eq_take]
 rw [List.getLast?_eq_getElem?, List.getElem?_eq_getElem (by omega)]
 simpa using h'
theorem ts_no (s : ByteArray) (h1 : 1 ≤ s.size) (h : ((s.extract (s.size - 1) s.size).toList == [32]) = false) : s = S (trimS s.data.toList) := by
 have h' : s.data.toList.drop (s.size - 1) ≠ [32] := by rw [← drop_l, ← Lib.toList_data]; simpa using h
 have hl := size_l s
 apply S_eq
 unfold trimS
 rw [← hl] at h' h1
 rw [last_one _ h1] at h'
 rw [if_neg]
 rw [List.getLast?_eq_getElem?, List.getElem?_eq_getElem (by omega)]
 simpa using h'
theorem ts_nil (s : ByteArray) (h : ¬ 1 ≤ s.size) : s = S (trimS s.data.toList) := by
 have h0 : s.data.toList = [] := List.eq_nil_of_length_eq_zero (by rw [size_l]; omega)
 apply S_eq
 rw [h0]; rfl
set_option maxHeartbeats 400000 in
theorem trimPrefix_any (s : ByteArray) (w : World) (hm : s.size ≤ maxLen) :
  Calls Tryz.prog 123 #[.string s, .string ⟨#[32]⟩] w fun e w' => e = .returned (.string (S (trimP s.data.toList))) ∧ w = w' := by
 unfold maxLen at hm
 by_cases h1 : 1 ≤ s.size
 ·go_enter Tryz.func123, Tryz.ntmps123
  go_wp2
  ·go_ret
   exact ⟨ret_str (tp_yes s ‹_›), rfl⟩
  ·go_ret
   exact ⟨ret_str (tp_no s ‹_›), rfl⟩
 ·go_enter Tryz.func123, Tryz.ntmps123
  go_wp2
  go_ret
  exact ⟨ret_str (tp_nil s h1), rfl⟩
set_option maxHeartbeats 400000 in
theorem trimSuffix_any (s : ByteArray) (w : World) (hm : s.size ≤ maxLen) :
  Calls Tryz.prog 122 #[.string s, .string ⟨#[32]⟩] w fun e w' => e = .returned (.string (S (trimS s.data.toList))) ∧ w = w' := by
 unfold maxLen at hm
 by_cases h1 : 1 ≤ s.size
 ·go_enter Tryz.func122, Tryz.ntmps122
  go_wp2
  ·go_ret
   exact ⟨ret_str (ts_yes s h1 ‹_›), rfl⟩
  ·go_ret
   exact ⟨ret_str (ts_no s h1 ‹_›), rfl⟩
 ·go_enter Tryz.func122, Tryz.ntmps122
  go_wp2
  go_ret
  exact ⟨ret_str (ts_nil s h1), rfl⟩
theorem trimP_len (l : List UInt8) : (trimP l).length ≤ l.length := by unfold trimP; split <;> simp
theorem trimS_len (l : List UInt8) : (trimS l).length ≤ l.length := by unfold trimS; split <;> simp
theorem squeeze_len (l : List UInt8) : (squeeze l).length ≤ l.length := by
 have h1 := TextMath.col_length l false
 have h2 := trimP_len (col false l)
 have h3 := trimS_len (trimP (col false l))
 unfold squeeze; omega
theorem normal_len (l : List UInt8) : (normal l).length ≤ l.length := by
 have := squeeze_len (fold l)
 rw [fold_len] at this; exact this
set_option maxHeartbeats 400000 in
theorem squeeze_any (s : ByteArray) (w : World) (hm : s.size ≤ 281474976710656) :
  Calls Tryz.prog 90 #[.string s] w fun e w' => e = .returned (.string (S (squeeze s.data.toList))) ∧ Below w.heap.size w w' := by
 have h1 : (S (col false s.data.toList)).size ≤ maxLen := by rw [S_size]; have := TextMath.col_length s.data.toList false; rw [size_l] at this; unfold maxLen; omega
 have h2 : (S (trimP (col false s.data.toList))).size ≤ maxLen := by
  rw [S_size] at h1 ⊢; have := trimP_len (col false s.data.toList); omega
 go_enter Tryz.func90, Tryz.ntmps90
 go_wp2_with fail
 refine (collapse_any s _ hm).mono ?_
 rintro e w1 ⟨rfl, hb⟩
 go_wp2_with fail
 refine (trimPrefix_any _ _ h1).mono ?_
 rintro e w2 ⟨rfl, rfl⟩
 rw [S_l]
 go_wp2_with fail
 refine (trimSuffix_any _ _ h2).mono ?_
 rintro e w2 ⟨rfl, rfl⟩
 rw [S_l]
 go_wp2_with fail
 go_ret
 exact ⟨rfl, hb⟩
set_option maxHeartbeats 400000 in
theorem normal_any (s : ByteArray) (w : World) (hm : s.size ≤ 281474976710656) :
  Calls Tryz.prog 59 #[.string s] w fun e w' => e = .returned (.string (S (normal s.data.toList))) ∧ Below w.heap.size w w' := by
 have h1 : (S (fold s.data.toList)).size ≤ 281474976710656 := by rw [S_size, fold_len, size_l]; exact hm
 go_enter Tryz.func59, Tryz.ntmps59
 go_wp2_with fail
 refine (fold_any s _ (by unfold maxLen; omega)).mono ?_
 rintro e w1 ⟨rfl, hb⟩
 go_wp2_with fail
 refine (squeeze_any _ _ h1).mono ?_
 rintro e w2 ⟨rfl, hb2⟩
 rw [S_l]
 go_wp2_with fail
 go_ret
 exact ⟨rfl, hb.trans (hb2.mono hb.size)⟩
end Go.Proofs.YtkknenmpdimdbaaGreatDoor

namespace Go.Proofs.YtkknenmpdimdbaaGreatDoor
namespace Ke
open Go.RowKit Go.Lib Go.Sort Go.Shelf
open TextMath (fold lo normal check)
open Du (PRow pV pV_len prow_at flatV_at flatV_len info_ava)
set_option linter.unusedVariables false
set_option linter.unusedSimpArgs false
set_option maxRecDepth 100000
set_option maxHeartbeats 1000000 in
theorem closure_any (x y : PR) (W : World) : Calls Tryz.prog 61 #[.agg #[.string (S x.1), .string (S x.2)], .agg #[.string (S y.1), .string (S y.2)]] W fun e w' => e = .returned (.int .i64 (cfP x y)) ∧ ∃ q os', w' = grow (W.drewN q) os' := by
 have hcon : Hid (∀ W', Calls Tryz.prog 62 #[.string (S x.1), .string (S y.1)] W' fun e w' => e = .returned (.int .i64 (cfP x y)) ∧ w' = W') := fun W' => by
  have := Tryz.strings_Compare (S x.1) (S y.1) W'
  rw [S_l, S_l] at this
  exact this
 generalize cfP x y = r at *
 generalize S x.1 = x1 at *
 generalize S x.2 = x2 at *
 generalize S y.1 = y1 at *
 generalize S y.2 = y2 at *
 go_enter Tryz.func61, Tryz.ntmps61
 go_wp2_with (go_at_call 62; refine (hcon.out _).mono ?_; rintro e w' ⟨rfl, rfl⟩)
 go_ret
 exact ⟨rfl, 0, _, by rw [alloc_eq_grow, alloc_eq_grow, grow_grow]; rfl⟩
theorem cmpLays (blk off size : Nat) (w : World) : CmpLays Tryz.prog 61 #[] pV 2 cfP blk off size w := fun _ _ _ _ x y => closure_any x y _
theorem enter_cl : ∀ args W, (callFunc 61 args).run Tryz.prog W = .ok (.enter 61 args) W := enters_of Tryz.func61 (by kernel_rfl) rfl
set_option maxHeartbeats 2000000 in
theorem sort_any (g n : Nat) (qs : List PR) (w : World) (hn : qs.length = n) (hH : HoldsK pV 2 w g 0 qs.toArray) (hg : g < w.heap.size) (h8 : n ≤ 8) :
  Calls Tryz.prog 60 #[.slice (some ⟨g, 0, none⟩) n n, .func (.func 61) #[] #[]] w fun e w' => e = .returned (.tuple #[]) ∧ ∃ m os, w' = sortWorldK pV 2 w g 0 m (srtP qs).toArray os := by
 subst hn
 have hp : Hid (∀ lim : Int, Calls Tryz.prog 91 #[.slice (some ⟨g, 0, none⟩) qs.length qs.length, .int .i64 0, .int .i64 (qs.length : Int), .int .i64 lim, .func (.func 61) #[] #[]] w fun e w' => e = .returned (.tuple #[]) ∧ ∃ n os, w' = sortWorldK pV 2 w g 0 n (srtP qs).toArray os) := fun lim => by
  have := AnyQ.pdqsortCmpFunc_small Tryz.laysSF 2 Tryz.isAgg64 Tryz.sizeOf64 pV pV_len (fun x v hv => by simp [pV] at hv; rcases hv with rfl | rfl <;> rfl) cfP 61 #[] g 0 qs.length 0 qs.toArray.size lim qs.toArray w enter_cl (cmpLays _ _ _ _) hH hg (Nat.zero_le _) (Nat.le_refl _) (by simp; omega) (by simp; omega)
  have e : (srtP qs).toArray = Sort.insertionSort (ltOf cfP) qs.toArray 0 qs.toArray.size := by unfold srtP; simp
  rw [e]
  exact this
 have hl : Hid (∀ W, Calls Tryz.prog 92 #[.int .u64 (qs.length : Int)] W fun e w' => (∃ l : Int, e = .returned (.int .i64 l)) ∧ w' = W) := fun W => (Tryz.bits_Len (qs.length : Int) W (by omega) (by omega)).mono fun _ _ ⟨he, hw⟩ => ⟨⟨_, he⟩, hw⟩
 clear hH
 have nb : (qs.length : Int) ≤ 8 := by omega
 generalize qs.length = n at *
 go_enter Tryz.func60, Tryz.ntmps60
 go_wp2_with (first
  | (go_at_call 92; refine (hl.out _).mono ?_; rintro e w' ⟨⟨l, rfl⟩, rfl⟩)
  | (go_at_call 91; refine (hp.out _).mono ?_; rintro e w' ⟨rfl, m, os, rfl⟩))
 go_end0
 exact ⟨rfl, m, os, rfl⟩
def PB (W : World) (g : Nat) (qs : List PR) : Prop := W.heap[g]? = some (.cells (qs.flatMap pV).toArray 64 (0, 0))
theorem PB.lt {W : World} {g : Nat} {qs : List PR} (h : PB W g qs) : g < W.heap.size := (Array.getElem?_eq_some_iff.1 h).1
theorem PB.cell {W : World} {g : Nat} {qs : List PR} (h : PB W g qs) (i : Nat) (hi : i < qs.length) (j : Nat) (hj : j < 2) : W.cell? ⟨g, i * 2 + j, none⟩ = (pV qs[i])[j]? ∧ W.frozen? ⟨g, i * 2 + j, none⟩ = false := by
 constructor
 ·rw [cell_of_row _ _ _ _ _ _ h]
  rw [← flatV_at pV 2 pV_len qs i hi j hj]
  simp
 ·exact Go.frozen_of_row _ _ _ _ _ h
theorem PB.below {W W' : World} {g : Nat} {qs : List PR} (h : PB W g qs) (hb : Below W.heap.size W W') : PB W' g qs := by unfold PB; rw [hb.block g h.lt]; exact h
theorem flat_set (p : PR) : ∀ (qs : List PR) (i : Nat), i < qs.length → ((qs.flatMap pV).set (i * 2) (.string (S p.1))).set (i * 2 + 1) (.string (S p.2)) = (qs.set i p).flatMap pV
 | [], i, h => by simp at h
 | q :: qs, 0, _ => by simp [pV]
 | q :: qs, i + 1, h => by
  have ih := flat_set p qs i (by simpa using h)
  rw [List.set_cons_succ, List.flatMap_cons, List.flatMap_cons, ← ih]
  have e : (i + 1) * 2 = i * 2 + 2 := by omega
  rw [e]
  simp [pV]
theorem PB.put {W : World} {g : Nat} {qs : List PR} (h : PB W g qs) (i : Nat) (hi : i < qs.length) (p : PR) : PB ((W.setCell ⟨g, i * 2, none⟩ (.string (S p.1))).setCell ⟨g, i * 2 + 1, none⟩ (.string (S p.2))) g (qs.set i p) := by
 have h1 := Go.heap_setCell_same W g (i * 2) _ _ (.string (S p.1)) h
 have h2 := Go.heap_setCell_same _ g (i * 2 + 1) _ _ (.string (S p.2)) h1
 unfold PB
 rw [h2, ← flat_set p qs i hi]
 simp
theorem PB.holds {W : World} {g : Nat} {qs : List PR} (h : PB W g qs) : HoldsK pV 2 W g 0 qs.toArray := by
 intro j hj
 rw [size_flatK] at hj
 have hj' : j < qs.length * 2 := by simpa using hj
 have hq : j / 2 < qs.length := by omega
 have hr : j % 2 < 2 := by omega
 obtain ⟨h1, h2⟩ := h.cell (j / 2) hq (j % 2) hr
 have e : j / 2 * 2 + j % 2 = j := by omega
 rw [e] at h1 h2
 rw [Nat.zero_add]
 refine ⟨?_, h2⟩
 rw [h1, get_flatK _ _ _ _ (by simpa using hj')]
 have e2 : qs.toArray[j / 2]! = qs[j / 2] := by rw [getElem!_pos _ _ (by simpa using hq)]; simp
 rw [e2, List.getElem?_eq_getElem (by rw [pV_len]; exact hr), getElem!_pos _ _ (by rw [pV_len]; exact hr)]
 rfl
theorem sorted_row {w : World} {g m : Nat} {qs : List PR} {os : Array Obj} (h : PB w g qs) : PRow (sortWorldK pV 2 w g 0 m (srtP qs).toArray os) (some ⟨g, 0, none⟩) (srtP qs) := by
 have hl := (srt_holds qs).2.1
 have hH := holdsK_sortWorldK_c (enc := pV) (k := 2) (w := w) (blk := g) (off := 0) qs.toArray (srtP qs).toArray m os h.holds h.lt (by simpa using hl)
 intro i hi
 refine ⟨g, 0, rfl, fun j hj => ?_⟩
 have := (hH.cell (i := i) (c := j) (by simpa using hi) hj).1
 rw [this]
 have e2 : (srtP qs).toArray[i]! = (srtP qs)[i] := by rw [getElem!_pos _ _ (by simpa using hi)]; simp
 rw [e2, List.getElem?_eq_getElem (by rw [pV_len]; exact hj), getElem!_pos _ _ (by rw [pV_len]; exact hj)]
theorem sorted_below {w : World} {g m : Nat} {d : Array PR} {os : Array Obj} (hg : g < w.heap.size) : Below g w (sortWorldK pV 2 w g 0 m d os) := by
 refine ⟨rfl, rfl, rfl, size_sortWorldK_c _ _ _ _ _ _ _ _, fun k hk => ?_⟩
 unfold sortWorldK grow putRowK putRow mapBlock
 simp only
 rw [Array.getElem?_append_left (by simp [ahead]; omega)]
 rw [Array.getElem?_modify]
 simp [ahead]
 intro e
 omega
theorem make_rdn (n : Nat) (hn : n ≤ 8) (W : World) : (Instr.makeSlice 57 (.int .i64 (n : Int)) (.int .i64 (n : Int))).run Tryz.prog W = .ok (.slice (some ⟨W.heap.size, 0, none⟩) n n) (W.alloc (.cells ((List.replicate n (([], []) : PR)).flatMap pV).toArray 64)) := by
 obtain ⟨i0, hi, hz0, hz1, hz2⟩ := info_parts info_ava
 have hr := run_make (P := Tryz.prog) W 57 64 i0 _ Tryz.underlying57 hi hz0 .i64 .i64 n n (by omega) (Int.le_refl _) (by rw [hz2]; omega) (by omega)
 rw [hr]
 simp only [Int.toNat_natCast, hz1]
 congr 3
 apply Array.ext
 ·simp [size_madeCells, flatV_len pV 2 pV_len]
 ·intro i h1 h2
  have hi2 : i < n * 2 := by simpa [size_madeCells] using h1
  have hq : i / 2 < n := by omega
  have e : i / 2 * 2 + i % 2 = i := by omega
  have h3 := flatV_at pV 2 pV_len (List.replicate n (([], []) : PR)) (i / 2) (by simpa using hq) (i % 2) (by omega)
  rw [e] at h3
  rw [List.getElem_replicate] at h3
  have h4 : (((List.replicate n (([], []) : PR)).flatMap pV).toArray)[i] = Value.string ⟨#[]⟩ := by
   have h5 : (pV (([], []) : PR))[i % 2]? = some (Value.string ⟨#[]⟩) := by
    have : i % 2 = 0 ∨ i % 2 = 1 := by omega
    rcases this with q | q <;> rw [q] <;> rfl
   rw [h5] at h3
   have := List.getElem?_eq_some_iff.1 h3
   obtain ⟨_, h6⟩ := this
   simpa using h6
  rw [h4]
  simp [madeCells]
  have : i % 2 = 0 ∨ i % 2 = 1 := by omega
  rcases this with q | q <;> simp [q, Value.cells]
theorem nm_len : ∀ i : Fin 62, (rowL i).1.data.toList.length ≤ 64 := by decide +kernel
theorem tyC_len (s : List UInt8) : (tyC s).length ≤ s.length + 64 := by
 unfold tyC tyR parsT
 split
 ·show (canN (S (fold s))).data.toList.length ≤ _
  unfold canN
  split
  ·rw [S_l, fold_len]; omega
  ·rename_i i _
   have := nm_len i
   omega
 ·simp
theorem sum_le (l : List PR) (M : Nat) (h : ∀ x ∈ l, ptW x ≤ M) : (l.map ptW).sum ≤ l.length * M := by
 induction l with
 | nil => simp
 | cons x l ih =>
  have h1 := h x (by simp)
  have h2 := ih (fun y hy => h y (by simp [hy]))
  rw [List.map_cons, List.sum_cons, List.length_cons, Nat.succ_mul]
  omega
end Ke
end Go.Proofs.YtkknenmpdimdbaaGreatDoor

namespace Go.Proofs.YtkknenmpdimdbaaGreatDoor
namespace Ke
open Go.RowKit Go.Lib Go.Sort
open TextMath (fold lo normal check)
open Du (PRow pV pV_len prow_at flatV_at flatV_len info_ava)
set_option linter.unusedVariables false
set_option linter.unusedSimpArgs false
set_option maxRecDepth 100000
def KtQ (w : World) (ps : List PR) (num : Int) (e : Ending) (w' : World) : Prop :=
 Below w.heap.size w w' ∧ ((num < 64 ∧ OkP ps ∧ e = .returned (.tuple #[.string (S (keyTx ps)), .nilIface])) ∨ (¬ (num < 64 ∧ OkP ps) ∧ ∃ t u, e = .returned (.tuple #[.string ⟨#[]⟩, .iface t u])))
def FlI (W1 : World) (ps : List PR) (n k : Nat) (qs : List PR) (W : World) : Prop := qs.length = n ∧ qs.take k = (ps.take k).map cn ∧ PB W W1.heap.size qs ∧ Below W1.heap.size W1 W
theorem fl_step {W1 W : World} {ps qs : List PR} {n k : Nat} (h : FlI W1 ps n k qs W) (hk : k < n) (hkP : k < ps.length) :
  (∃ u v, W.cell? ⟨W1.heap.size, k * 2, none⟩ = some u ∧ W.cell? ⟨W1.heap.size, k * 2 + 1, none⟩ = some v) ∧ W.frozen? ⟨W1.heap.size, k * 2, none⟩ = false ∧ W.frozen? ⟨W1.heap.size, k * 2 + 1, none⟩ = false ∧
  ∃ W2, (W.setCell ⟨W1.heap.size, k * 2, none⟩ (.string (S (tyC ps[k].1)))).setCell ⟨W1.heap.size, k * 2 + 1, none⟩ (.string (S (normal ps[k].2))) = W2 ∧ FlI W1 ps n (k + 1) (qs.set k (cn ps[k])) W2 := by
 obtain ⟨h1, h2, h3, h4⟩ := h
 have hkq : k < qs.length := by omega
 obtain ⟨c0, f0⟩ := h3.cell k hkq 0 (by omega)
 obtain ⟨c1, f1⟩ := h3.cell k hkq 1 (by omega)
 rw [Nat.add_zero] at c0 f0
 refine ⟨⟨_, _, c0, c1⟩, f0, f1, _, rfl, by rw [List.length_set]; exact h1, ?_, h3.put k hkq (cn ps[k]), ?_⟩
 ·rw [List.take_succ_eq_append_getElem (by rw [List.length_set]; exact hkq), List.take_succ_eq_append_getElem hkP, List.map_append, List.getElem_set_self, List.take_set_of_le (Nat.le_refl _), h2]
  rfl
 ·exact (h4.setCell (p := ⟨W1.heap.size, k * 2, none⟩) (Nat.le_refl _) _).setCell (p := ⟨W1.heap.size, k * 2 + 1, none⟩) (Nat.le_refl _) _
theorem FlI.below {W1 W W' : World} {ps qs : List PR} {n k : Nat} (h : FlI W1 ps n k qs W) (hb : Below W.heap.size W W') : FlI W1 ps n k qs W' := ⟨h.1, h.2.1, h.2.2.1.below hb, h.2.2.2.trans (hb.mono h.2.2.2.size)⟩
set_option maxHeartbeats 4000000 in
theorem keyText_any (a : Option Addr) (c n : Nat) (ps : List PR) (num : Int) (w : World) (hG : ErrsG w) (hn : ps.length = n) (hr : PRow w a ps) (hz : ∀ p ∈ ps, p.1.length + p.2.length ≤ 1073741824) (hnb : n ≤ 140737488355328) :
  Calls Tryz.prog 32 #[.slice a n c, .int .i64 num] w fun e w' => KtQ w ps num e w' := by
 have hC : Hid (Calls Tryz.prog 39 #[.slice a n c, .int .i64 num] w fun e w' => CanQ w ps num n e w') := canonical_types a c n ps num w hG hn hr (fun p hp => by have := hz p hp; omega) hnb
 have hn' : Hid (ps.length = n) := hn
 have hr' : Hid (PRow w a ps) := hr
 have hz' : Hid (∀ p ∈ ps, p.1.length + p.2.length ≤ 1073741824) := hz
 have hsumB : Hid (OkP ps → ((srtP (ps.map cn)).map ptW).sum ≤ 1000000000000) := fun hok => by
  have h1 := sum_le (srtP (ps.map cn)) 10000000000 (fun x hx => by
   obtain ⟨p, hp, rfl⟩ := List.mem_map.1 ((srt_holds (ps.map cn)).1.subset hx)
   have h2 := hz p hp
   have h3 := tyC_len p.1
   have h4 := normal_len p.2
   unfold ptW cn
   simp only
   omega)
  have h2 := (srt_holds (ps.map cn)).2.1
  rw [List.length_map] at h2
  have h3 := hok.2.1
  rw [h2] at h1
  have : ps.length * 10000000000 ≤ 8 * 10000000000 := Nat.mul_le_mul_right _ h3
  omega
 clear hr hz hn hnb hG
 go_enter Tryz.func32, Tryz.ntmps32
 go_wp2_with fail
 refine hC.out.mono ?_
 rintro e W1 ⟨hb1, ⟨h64, hok, ta, tc, rfl, hO⟩ | ⟨hno, t, u, rfl⟩⟩
 ·have hok' : Hid (num < 64 ∧ OkP ps) := ⟨h64, hok⟩
  have hn8 : n ≤ 8 := by have := hok.2.1; have := hn'.out; omega
  have hn1 : 1 ≤ n := by have := hok.1; have := hn'.out; omega
  have nb : (n : Int) ≤ 8 := by omega
  have hb1' : Hid (Below w.heap.size w W1) := hb1
  obtain ⟨tg, rfl⟩ : ∃ tg, ta = some ⟨tg, 0, none⟩ := by
   rcases ownS_formD hO with ⟨h0, h1⟩ | ⟨g, cap, h0, _⟩
   ·injection h0 with _ h0
    omega
   ·injection h0 with h0
    exact ⟨g, h0⟩
  have hO' : Hid (OwnS W1 w.heap.size (.slice (some ⟨tg, 0, none⟩) n tc) (ps.map fun p => tyC p.1)) := hO
  have hmk := make_rdn n hn8 W1
  obtain ⟨W2, hW2⟩ : ∃ W2, W1.alloc (.cells ((List.replicate n (([], []) : PR)).flatMap pV).toArray 64) = W2 := ⟨_, rfl⟩
  have hF0 : Hid (FlI W1 ps n 0 (List.replicate n ([], [])) W2) := by
   refine ⟨List.length_replicate, by simp, ?_, ?_⟩
   ·unfold PB; rw [← hW2]; exact heap_alloc_new _ _
   ·rw [← hW2]; exact (Below.refl _ _).alloc (Nat.le_refl _) _
  rw [hW2] at hmk
  have hn8' : Hid (n ≤ 8 ∧ 1 ≤ n) := ⟨hn8, hn1⟩
  clear hO hok h64 hb1 hW2 hC hn8
  go_wp2_with fail
  go_loopw [26] (fun iv wr => ∃ (k : Nat) (qs : List PR), k ≤ n ∧ iv = .int .i64 (k : Int) ∧ Hid (FlI W1 ps n k qs wr)) (fun iv _ => n - (intOf iv).toNat)
  case atStart => exact ⟨0, _, Nat.zero_le _, rfl, hF0⟩
  case round =>
   obtain ⟨k, qs, hk, rfl, hF⟩ := hrel
   clear hF0 hmk
   have k0 : (0 : Int) ≤ (k : Int) := Int.natCast_nonneg _
   by_cases hlt : k < n
   ·have k1 : (k : Int) < (n : Int) := Int.ofNat_lt.2 hlt
    have hkP : k < ps.length := by rw [hn'.out]; exact hlt
    obtain ⟨pb, po, rfl, c3, c4⟩ := prow_at ((hr'.out.below pV_len hb1'.out).below pV_len hF.out.2.2.2) k hkP
    have ct := ownS_cell (l := ps.map fun p => tyC p.1) (by rw [List.length_map, hn'.out]; exact ownS_below hO'.out hF.out.2.2.2) k (by rw [List.length_map]; exact hkP)
    rw [List.getElem_map] at ct
    have hzk : Hid (ps[k].1.length + ps[k].2.length ≤ 1073741824) := hz'.out _ (List.getElem_mem hkP)
    have hst := fun W (h : FlI W1 ps n k qs W) => fl_step h hlt hkP
    have hst' : Hid (∀ W, FlI W1 ps n k qs W → _) := hst
    clear hst
    generalize ps[k] = p at *
    obtain ⟨t, v⟩ := p
    dsimp only at c3 c4 hzk hst' ct
    obtain ⟨W3, hW3⟩ : ∃ W3, wr.alloc (.cells #[.string (S t), .string (S v)] 64) = W3 := ⟨_, rfl⟩
    have hb3 : Below wr.heap.size wr W3 := by rw [← hW3]; exact (Below.refl _ _).alloc (Nat.le_refl _) _
    have hx3 : W3.heap[wr.heap.size]? = some (.cells #[.string (S t), .string (S v)] 64 (0, 0)) := by rw [← hW3]; exact heap_alloc_new _ _
    have hF3 : Hid (FlI W1 ps n k qs W3) := hF.out.below hb3
    have cd : W3.drew.cell? ⟨tg, k, none⟩ = some (.string (S (tyC t))) ∧ W3.drew.cell? ⟨wr.heap.size, 1, none⟩ = some (.string (S v)) :=
     ⟨(hb3.cell (World.block_lt_of_cell? _ _ ct)).trans ct, (cell_of_row _ _ _ _ _ _ hx3).trans rfl⟩
    have hlt' : Hid (k < n) := hlt
    have hg3 : Hid (W1.heap.size < wr.heap.size) := hF.out.2.2.1.lt
    have htg : Hid (tg < W1.heap.size) := by
     have := ownS_cell (l := ps.map fun p => tyC p.1) (by rw [List.length_map, hn'.out]; exact hO'.out) 0 (by rw [List.length_map, hn'.out]; exact hn8'.out.2)
     exact World.block_lt_of_cell? _ _ this
    have hN : Hid (Calls Tryz.prog 59 #[.string (S v)] W3.drew fun e w' => e = .returned (.string (S (normal v))) ∧ Below W3.drew.heap.size W3.drew w') := by
     have := normal_any (S v) W3.drew (by rw [S_size]; have := hzk.out; omega)
     rw [S_l] at this
     exact this
    have hb3' : Hid (Below W3.heap.size W3 W3.drew) := below_drew _ _
    have hcd8 : Hid (∀ w8, Below W3.drew.heap.size W3.drew w8 → FlI W1 ps n k qs w8 ∧ w8.cell? ⟨tg, k, none⟩ = some (.string (S (tyC t))) ∧ w8.cell? ⟨wr.heap.size, 1, none⟩ = some (.string (S v))) := fun w8 hb8 =>
     ⟨(hF3.out.below hb3'.out).below hb8, (hb8.cell (World.block_lt_of_cell? _ _ cd.1)).trans cd.1, (hb8.cell (World.block_lt_of_cell? _ _ cd.2)).trans cd.2⟩
    have hcd9 : Hid (∀ (w8 W4 : World) (x y : Value), w8.cell? ⟨tg, k, none⟩ = some (.string (S (tyC t))) ∧ w8.cell? ⟨wr.heap.size, 1, none⟩ = some (.string (S v)) → (w8.setCell ⟨W1.heap.size, k * 2, none⟩ x).setCell ⟨W1.heap.size, k * 2 + 1, none⟩ y = W4 → W4.cell? ⟨tg, k, none⟩ = some (.string (S (tyC t))) ∧ W4.cell? ⟨wr.heap.size, 1, none⟩ = some (.string (S v))) := fun w8 W4 x y h hW => by
     have key : ∀ b, b ≠ W1.heap.size → W4.heap[b]? = w8.heap[b]? := fun b hb => by rw [← hW, Below.heap_setCell _ _ _ _ hb, Below.heap_setCell _ _ _ _ hb]
     have h1 := key tg (by have := htg.out; omega)
     have h2 := key wr.heap.size (by have := hg3.out; omega)
     refine ⟨?_, ?_⟩
     ·rw [← h.1]; unfold World.cell?; rw [h1]
     ·rw [← h.2]; unfold World.cell?; rw [h2]
    generalize S (tyC t) = sct at *
    generalize S (normal v) = snv at *
    generalize S t = st at *
    generalize S v = sv' at *
    generalize hgg : W1.heap.size = g at *
    have z0 : 0 + k * 2 = k * 2 := Nat.zero_add _
    have zk : 0 + k = k := Nat.zero_add _
    clear hF hk hlt hkP hx3 hb3 ct hzk hF3 hb3' hg3 htg hok' hO' hsumB
    go_upto_region 8 with fail
    go_region_held3 (fun w' => w'.cell? ⟨tg, k, none⟩ = some (.string sct) ∧ w'.cell? ⟨wr.heap.size, 1, none⟩ = some (.string sv'))
     (first | exact cd9 | exact cd8 | exact cd)
     (first | (go_at_call 59; refine hN.out.mono ?_; rintro e w8 ⟨rfl, hb8⟩; obtain ⟨hF8, cd8⟩ := hcd8.out w8 hb8; obtain ⟨⟨u, v', f1, f2⟩, f3, f4, W4, hW4, hF9⟩ := hst'.out w8 hF8; have cd9 := hcd9.out w8 W4 _ _ cd8 hW4; have HF9 : Hid (FlI W1 ps n (k + 1) (qs.set k (cn (t, v))) W4) := hF9; clear hb8 hF8 hF9))
    clear cd cd8 cd9 f1 f2 f3 f4 hW4 hN hcd8 hcd9 hst'
    go_wp2_with fail
    go_roundw
    case rel => exact ⟨k + 1, _, hlt'.out, by go_num, HF9⟩
    case measure => have := hlt'.out; simp [intOf]; omega
   ·have e : n = k := by omega
    subst e
    have i1 : ¬ (n : Int) < (n : Int) := by omega
    have hqs : Hid (qs = ps.map cn) := by
     have h1 := hF.out.2.1
     rw [List.take_of_length_le (by rw [hF.out.1]; exact Nat.le_refl _), List.take_of_length_le (by rw [hn'.out]; exact Nat.le_refl _)] at h1
     exact h1
    have hS : Hid (Calls Tryz.prog 60 #[.slice (some ⟨W1.heap.size, 0, none⟩) n n, .func (.func 61) #[] #[]] wr fun e w' => e = .returned (.tuple #[]) ∧ ∃ m os, w' = sortWorldK pV 2 wr W1.heap.size 0 m (srtP qs).toArray os) := sort_any W1.heap.size n qs wr hF.out.1 hF.out.2.2.1.holds hF.out.2.2.1.lt hn8'.out.1
    have hrest : Hid (∀ m os, ∃ W5, sortWorldK pV 2 wr W1.heap.size 0 m (srtP qs).toArray os = W5 ∧ Below w.heap.size w W5 ∧ W1.heap.size < W5.heap.size ∧ PRow W5 (some ⟨W1.heap.size, 0, none⟩) (srtP qs)) := fun m os => by
     have hb5 := sorted_below (d := (srtP qs).toArray) (m := m) (os := os) hF.out.2.2.1.lt
     refine ⟨_, rfl, ?_, Nat.lt_of_lt_of_le hF.out.2.2.1.lt hb5.size, sorted_row hF.out.2.2.1⟩
     exact (hb1'.out.trans (hF.out.2.2.2.mono hb1'.out.size)).trans (hb5.mono hb1'.out.size)
    clear hF hk hlt
    go_wp2_with fail
    refine hS.out.mono ?_
    rintro e W5 ⟨rfl, m, os, hW5⟩
    obtain ⟨W5', e5, hb5, hg5, hp5⟩ := hrest.out m os
    have e6 : W5 = W5' := hW5.trans e5
    subst e6
    obtain ⟨W6, hW6⟩ : ∃ W6, W5.alloc (.cells #[.pointer none, .slice none 0 0] 89) = W6 := ⟨_, rfl⟩
    have hb6 : Below W5.heap.size W5 W6 := by rw [← hW6]; exact (Below.refl _ _).alloc (Nat.le_refl _) _
    have hI6 : Wr W5.heap.size W5.heap.size W6 W6 [] W6 := by
     refine ⟨?_, Below.refl _ _, Lr.Kt.refl _, hb6.size⟩
     have h := Lib.fresh_isBuilder 89 5 W5
     rw [hW6] at h
     exact h
    have hrow : ∀ W, Below W5.heap.size W6 W → PRow W (some ⟨W1.heap.size, 0, none⟩) (srtP qs) := fun W hb i hi => by
     obtain ⟨b', o', e', h'⟩ := hp5 i hi
     refine ⟨b', o', e', fun j hj => ?_⟩
     rw [← h' j hj]
     injection e' with e'
     injection e' with e1 e2
     subst e1 e2
     have := (hb.block W1.heap.size hg5).trans (hb6.block W1.heap.size hg5)
     unfold World.cell?
     rw [this]
    have hl : (srtP qs).length = n := by rw [(srt_holds qs).2.1, hqs.out, List.length_map]; exact hn'.out
    have hP : Hid (Calls Tryz.prog 41 #[.pointer (some ⟨W5.heap.size, 0, none⟩), .slice (some ⟨W1.heap.size, 0, none⟩) n n] W6 fun e w' => e = .returned (.tuple #[]) ∧ Wr W5.heap.size W5.heap.size W6 W6 ([] ++ ptx (srtP qs)) w') := writePairs_any _ _ [] _ n n (srtP qs) W6 W6 W6 hI6 hl hrow (by rw [hqs.out]; have := hsumB.out hok'.out.2; simp only [List.length_nil]; omega) (by omega)
    have hB6 : Hid (Below w.heap.size w W6 ∧ w.heap.size ≤ W5.heap.size) := ⟨hb5.trans (hb6.mono hb5.size), hb5.size⟩
    have hfin : Hid (ptx (srtP qs) = keyTx ps) := by unfold Hid keyTx; rw [hqs.out]
    clear hp5 hg5 hb5 hW5 e5 hb6 hI6 hrow hl hS hrest hqs hO'
    go_wp2_with fail
    refine hP.out.mono ?_
    rintro e W7 ⟨rfl, h7⟩
    have hS7 : Hid (Calls Tryz.prog 43 #[.pointer (some ⟨W5.heap.size, 0, none⟩)] W7 fun e w' => e = .returned (.string (S (keyTx ps))) ∧ Below W5.heap.size W7 w') := by
     have := bString_any _ _ _ W7 h7.1 (Nat.le_trans h7.2.2.2 h7.2.1.size)
     rw [List.nil_append, hfin.out] at this
     exact this
    have hB7 : Hid (Below w.heap.size w W7 ∧ w.heap.size ≤ W5.heap.size) := ⟨hB6.out.1.trans (h7.2.1.mono hB6.out.2), hB6.out.2⟩
    clear hP h7 hB6 hfin hW6
    go_wp2_with fail
    refine hS7.out.mono ?_
    rintro e W8 ⟨rfl, h8⟩
    have hfin : Hid (KtQ w ps num (.returned (.tuple #[.string (S (keyTx ps)), .nilIface])) W8) := ⟨hB7.out.1.trans (h8.mono hB7.out.2), Or.inl ⟨hok'.out.1, hok'.out.2, rfl⟩⟩
    clear hS7 h8 hB7
    go_wp2_with fail
    go_ret2
    exact hfin.out
 ·have hno' : Hid (¬ (num < 64 ∧ OkP ps)) := hno
  clear hno hC
  go_wp2_with fail
  go_ret2
  exact ⟨hb1, Or.inr ⟨hno'.out, t, u, rfl⟩⟩
end Ke
end Go.Proofs.YtkknenmpdimdbaaGreatDoor
