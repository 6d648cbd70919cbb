import Derived.Test.YtoofphmplfbjgaaGreatMtLsE
namespace Go.Proofs.YtoofphmplfbjgaaGreat
open Go.RowKit
open TextMath (fold squeeze check unhex wo normal)
set_option linter.unusedVariables false
set_option linter.unusedSimpArgs false
namespace Ml

theorem synLs (w : World) : Calls Tryz.prog 17 #[.int .i64 13] w fun e w' => e = .returned (.iface 76 exX) ∧ w' = w := by
  go_enter Tryz.func17, Tryz.ntmps17
  go_wp2_with fail
  go_ret
  exact ⟨rfl, rfl⟩
set_option maxRecDepth 100000 in
theorem lsAt : SynAt 76 exX 268 := fun n W => by kernel_rfl
set_option maxRecDepth 100000 in
theorem lsWalked : WalkedAt 268 := fun args W => by kernel_rfl
/-- What Equal answers of SynList. -/
theorem listEq_any (m : Int) (v a : ByteArray) (hv : v.size ≤ 8388608) (ha : a.size ≤ 8388608) (w : World) (hM : MaxL m w) : Calls Tryz.prog 7 #[.int .i64 13, .string v, .string a] w fun e w' => e = .returned (tvE (lsO (lsR a)) (lsO (lsR v) && ((lsT (lsR v)).toList == (lsT (lsR a)).toList))) ∧ Below w.heap.size w w' :=
  equalW_any m 13 _ _ _ synLs lsAt lsWalked v _ a _ _ _ (fun W h => list_any m v hv W h) (fun W h => list_any m a ha W h) w hM
theorem toLS (x : List UInt8) : (S x).toList = x := by rw [Lib.toList_data, S_l]
theorem appS (l m : List UInt8) : S l ++ S m = S (l ++ m) := by refine S_eq _ _ ?_; rw [app_l, S_l, S_l]
/-- Whether a text is of SynText. -/
def tOk (v : ByteArray) : Bool := exOk v.data.toList
def nt (v : ByteArray) : List UInt8 := normal v.data.toList
def bV (b : Bool) : Value := .int .i64 (if b then 2 else 0)
theorem textEq (v a : ByteArray) (hv : v.size ≤ 1048576) (ha : a.size ≤ 1048576) (w : World) : Calls Tryz.prog 7 #[.int .i64 1, .string v, .string a] w fun e w' => e = .returned (tvE (tOk a) (tOk v && ((nrmL (tOk v) (nt v)).toList == (nrmL (tOk a) (nt a)).toList))) ∧ Below w.heap.size w w' := by
  have := equalG_any 1 _ _ _ synFo foAt foWalked v _ a _ _ _ (foN_any v (by omega)) (foN_any a (by omega)) w
  rw [MtFldM.exOk_fold, MtFldM.exOk_fold] at this
  exact this
theorem textEq_ok (v a : ByteArray) (hv : v.size ≤ 1048576) (ha : a.size ≤ 1048576) (ov : tOk v = true) (oa : tOk a = true) (w : World) : Calls Tryz.prog 7 #[.int .i64 1, .string v, .string a] w fun e w' => e = .returned (bV (decide (nt v = nt a))) ∧ Below w.heap.size w w' := by
  have h := textEq v a hv ha w
  have e : tvE (tOk a) (tOk v && ((nrmL (tOk v) (nt v)).toList == (nrmL (tOk a) (nt a)).toList)) = bV (decide (nt v = nt a)) := by
    rw [ov, oa]
    show tvE true (true && ((S (nt v)).toList == (S (nt a)).toList)) = _
    rw [toLS, toLS]
    unfold tvE bV
    by_cases h : nt v = nt a
    · simp [h]
    · simp [h]
  rw [e] at h
  exact h
theorem textEq_self (v : ByteArray) (hv : v.size ≤ 1048576) (w : World) : Calls Tryz.prog 7 #[.int .i64 1, .string v, .string v] w fun e w' => e = .returned (.int .i64 (if tOk v then 2 else 1)) ∧ Below w.heap.size w w' := by
  have h := textEq v v hv hv w
  have e : tvE (tOk v) (tOk v && ((nrmL (tOk v) (nt v)).toList == (nrmL (tOk v) (nt v)).toList)) = .int .i64 (if tOk v then 2 else 1) := by
    cases tOk v
    · rfl
    · simp [tvE]
  rw [e] at h
  exact h
/-- A text as a line, and two. -/
def ln (v : ByteArray) : List UInt8 := enc 67 v.data.toList
theorem ln_len (v : ByteArray) : (ln v).length ≤ 3 * v.size := by
  have := enc_len 67 v.data.toList
  rw [size_l] at this
  exact this
theorem enc_ge (h : UInt8) : ∀ l : List UInt8, l.length ≤ (enc h l).length
  | [] => Nat.zero_le _
  | c :: l => by
    have ih := enc_ge h l
    rw [enc_cons, List.length_append, List.length_cons]
    have : 1 ≤ (en1 h c).length := by
      unfold en1
      repeat' split
      all_goals simp
    omega
theorem tOk_ne {v : ByteArray} (h : tOk v = true) : v.data.toList ≠ [] ∧ (check v.data.toList).1 = true := by
  unfold tOk exOk at h
  rw [Bool.and_eq_true] at h
  refine ⟨fun e => ?_, h.2⟩
  rw [e] at h
  exact absurd h.1 (by decide)
theorem lnE_ln {v : ByteArray} (h : v.data.toList ≠ []) : lnE (S (ln v)) = some (S (escL (nt v))) := by
  have hg := enc_ge 67 v.data.toList
  unfold lnE ln
  rw [S_l, unE_enc 67 (by decide) v.data.toList _ (by omega)]
  show (if v.data.toList = [] then none else some (S (escL (normal v.data.toList)))) = _
  rw [if_neg h]
  rfl
theorem ln_no (v : ByteArray) : (36 : UInt8) ∉ ln v := enc_no 67 (by decide) _
theorem chk_ln (v : ByteArray) : (check (ln v)).1 = (check v.data.toList).1 := chk_enc 67 (by decide) v.data.toList []
theorem one_ok {a : ByteArray} (oa : tOk a = true) : lsR (S (ln a)) = some [S (escL (nt a))] := by
  obtain ⟨h1, h2⟩ := tOk_ne oa
  unfold lsR
  rw [S_l, if_pos (by rw [chk_ln]; exact h2), lsP_one (ln_no a)]
  simp only [mapO, lnE_ln h1]
  rfl
theorem two_ok {a b : ByteArray} (oa : tOk a = true) (ob : tOk b = true) : lsR (S (ln a ++ 36 :: ln b)) = some [S (escL (nt a)), S (escL (nt b))] := by
  obtain ⟨h1, h2⟩ := tOk_ne oa
  obtain ⟨h3, h4⟩ := tOk_ne ob
  unfold lsR
  rw [S_l, if_pos (by rw [chk_ascii (by decide), chk_ln, chk_ln, h2, h4]; rfl), lsP_two (ln_no a) (ln_no b)]
  simp only [mapO, lnE_ln h1, lnE_ln h3]
  rfl
/-- A text that is not of SynText is no line. -/
theorem two_bad {a : ByteArray} (oa : tOk a = false) (t : List UInt8) (ht : (36 : UInt8) ∉ t) : lsR (S (ln a ++ 36 :: t)) = none := by
  unfold lsR
  rw [S_l, chk_ascii (by decide), chk_ln]
  by_cases hc : (check a.data.toList).1 = true
  · have he : a.data.toList = [] := by
      unfold tOk exOk at oa
      rw [hc, Bool.and_true] at oa
      cases hl : a.data.toList with
      | nil => rfl
      | cons x y => rw [hl] at oa; cases oa
    rw [lsP_two (ln_no a) ht]
    have hn : lnE (S (ln a)) = none := by
      have e : ln a = [] := by unfold ln; rw [he]; rfl
      rw [e]
      decide +kernel
    split
    · exact mapO_no lnE hn [] [S t]
    · rfl
  · rw [if_neg (by rw [Bool.not_eq_true] at hc; rw [hc]; simp)]
theorem lsT_one (x : List UInt8) : lsT (some [S x]) = S x := by
  unfold lsT
  simp only [List.map_cons, List.map_nil, S_l, Lib.join_one]
theorem lsT_two (x y : List UInt8) : lsT (some [S x, S y]) = S (x ++ 36 :: y) := by
  unfold lsT
  simp only [List.map_cons, List.map_nil, S_l, Lib.join_cons, Lib.joinTail]
  simp
theorem escL_no (l : List UInt8) : (36 : UInt8) ∉ escL l := by rw [escL_enc]; exact enc_no 99 (by decide) l
theorem bV_eq (b : Bool) : tvE true (true && b) = bV b := by cases b <;> rfl
theorem eq_one {a c : ByteArray} (oa : tOk a = true) (oc : tOk c = true) : tvE (lsO (lsR (S (ln c)))) (lsO (lsR (S (ln a))) && ((lsT (lsR (S (ln a)))).toList == (lsT (lsR (S (ln c)))).toList)) = bV (decide (nt a = nt c)) := by
  rw [one_ok oa, one_ok oc, lsT_one, lsT_one, toLS, toLS]
  show tvE true (true && (escL (nt a) == escL (nt c))) = _
  rw [bV_eq]
  congr 1
  rw [Bool.eq_iff_iff]
  simp only [beq_iff_eq, decide_eq_true_eq]
  exact ⟨escL_inj, fun h => by rw [h]⟩
theorem eq_two {a b c d : ByteArray} (oa : tOk a = true) (ob : tOk b = true) (oc : tOk c = true) (od : tOk d = true) : tvE (lsO (lsR (S (ln c ++ 36 :: ln d)))) (lsO (lsR (S (ln a ++ 36 :: ln b))) && ((lsT (lsR (S (ln a ++ 36 :: ln b)))).toList == (lsT (lsR (S (ln c ++ 36 :: ln d)))).toList)) = bV (decide (nt a = nt c) && decide (nt b = nt d)) := by
  rw [two_ok oa ob, two_ok oc od, lsT_two, lsT_two, toLS, toLS]
  show tvE true (true && (escL (nt a) ++ 36 :: escL (nt b) == escL (nt c) ++ 36 :: escL (nt d))) = _
  rw [bV_eq]
  congr 1
  rw [Bool.eq_iff_iff]
  simp only [beq_iff_eq, Bool.and_eq_true, decide_eq_true_eq]
  constructor
  · intro h
    obtain ⟨h1, h2⟩ := cut_at (escL_no _) (escL_no _) h
    exact ⟨escL_inj h1, escL_inj h2⟩
  · rintro ⟨h1, h2⟩
    rw [h1, h2]
theorem eq_three {a b c : ByteArray} (oa : tOk a = true) (ob : tOk b = true) (oc : tOk c = true) : tvE (lsO (lsR (S (ln c)))) (lsO (lsR (S (ln a ++ 36 :: ln b))) && ((lsT (lsR (S (ln a ++ 36 :: ln b)))).toList == (lsT (lsR (S (ln c)))).toList)) = .int .i64 0 := by
  rw [two_ok oa ob, one_ok oc, lsT_two, lsT_one, toLS, toLS]
  show tvE true (true && (escL (nt a) ++ 36 :: escL (nt b) == escL (nt c))) = _
  have h : (escL (nt a) ++ 36 :: escL (nt b) == escL (nt c)) = false := by
    rw [beq_eq_false_iff_ne]
    intro h
    exact escL_no (nt c) (by rw [← h]; simp)
  rw [h]
  rfl
/-- The three that are written in the law. -/
theorem fix1 (m : Int) (w : World) (hM : MaxL m w) : Calls Tryz.prog 7 #[.int .i64 13, .string ⟨#[65, 36, 98, 92, 50, 52]⟩, .string ⟨#[97, 36, 32, 66, 92, 50, 52]⟩] w fun e w' => e = .returned (.int .i64 2) ∧ Below w.heap.size w w' := by
  have h := listEq_any m (S (ln (S [65]) ++ 36 :: ln (S [98, 36]))) (S (ln (S [97]) ++ 36 :: ln (S [32, 66, 36]))) (by decide) (by decide) w hM
  rw [eq_two (by decide +kernel) (by decide +kernel) (by decide +kernel) (by decide +kernel), show decide (nt (S [65]) = nt (S [97])) = true by decide +kernel, show decide (nt (S [98, 36]) = nt (S [32, 66, 36])) = true by decide +kernel] at h
  exact h
theorem fix2 (m : Int) (w : World) (hM : MaxL m w) : Calls Tryz.prog 7 #[.int .i64 13, .string ⟨#[97, 36, 98]⟩, .string ⟨#[97, 92, 50, 52, 98]⟩] w fun e w' => e = .returned (.int .i64 0) ∧ Below w.heap.size w w' := by
  have h := listEq_any m (S (ln (S [97]) ++ 36 :: ln (S [98]))) (S (ln (S [97, 36, 98]))) (by decide) (by decide) w hM
  rw [eq_three (by decide +kernel) (by decide +kernel) (by decide +kernel)] at h
  exact h
theorem dol_none : lsR (S (ln (S [97]) ++ 36 :: ln (S []))) = none := by
  unfold lsR
  rw [lsP_two (ln_no _) (ln_no _)]
  have hn : lnE (S (ln (S []))) = none := by decide +kernel
  split
  · exact mapO_no lnE hn [_] []
  · rfl
theorem fix3 (m : Int) (w : World) (hM : MaxL m w) : Calls Tryz.prog 7 #[.int .i64 13, .string ⟨#[97]⟩, .string ⟨#[97, 36]⟩] w fun e w' => e = .returned (.int .i64 1) ∧ Below w.heap.size w w' := by
  have h := listEq_any m (S (ln (S [97]))) (S (ln (S [97]) ++ 36 :: ln (S []))) (by decide) (by decide) w hM
  rw [dol_none] at h
  exact h
theorem badEq (m : Int) {a : ByteArray} (ha : a.size ≤ 1048576) (oa : tOk a = false) (w : World) (hM : MaxL m w) : Calls Tryz.prog 7 #[.int .i64 13, .string (S (ln a) ++ ⟨#[36, 120]⟩), .string ⟨#[120]⟩] w fun e w' => e = .returned (.int .i64 0) ∧ Below w.heap.size w w' := by
  have hl := ln_len a
  have h := listEq_any m (S (ln a ++ 36 :: [120])) (S (ln (S [120]))) (by rw [S_size]; simp; omega) (by decide) w hM
  rw [two_bad oa [120] (by decide), one_ok (a := S [120]) (by decide +kernel)] at h
  rw [show S (ln a ++ 36 :: [120]) = S (ln a) ++ ⟨#[36, 120]⟩ from (appS (ln a) [36, 120]).symm] at h
  exact h
end Ml
end Go.Proofs.YtoofphmplfbjgaaGreat
