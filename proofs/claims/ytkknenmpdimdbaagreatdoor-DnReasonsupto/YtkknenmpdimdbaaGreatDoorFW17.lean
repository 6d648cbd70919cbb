import Derived.Test.YtkknenmpdimdbaaGreatDoorFW13
import Derived.Test.YtkknenmpdimdbaaGreatDoorFW11
import Derived.BigQuiet
import Derived.Test.YtkknenmpdimdbaaGreatDoorFW15
import Derived.Test.YtkknenmpdimdbaaGreatDoorRfA
import Derived.Test.YtkknenmpdimdbaaGreatDoorFW9
import Derived.Test.YtkknenmpdimdbaaGreatDoorFW10
import Derived.Lib.AppendZeros
namespace Go.Proofs.YtkknenmpdimdbaaGreatDoor
open TextMath (fold lo)
set_option linter.unusedVariables false
theorem while_drop (K : List UInt8) : K = K.takeWhile isK ++ K.drop (K.takeWhile isK).length := by
 have h := List.take_append_drop (K.takeWhile isK).length K
 rw [take_while] at h
 exact h.symm
theorem dscE_inv (s : ByteArray) : ∀ (n e : Nat) (acc r : List (List UInt8)) (m : Nat), e ≤ s.size → dscE s n e acc = (r, m, true) → m = s.size ∧ ∃ zs, r = acc ++ zs ∧ s.data.toList.drop e = semis zs ∧ ∀ z ∈ zs, z ≠ [] ∧ ∀ b ∈ z, isK b = true
 | 0, e, acc, r, m, he, h => by
  unfold dscE at h
  injection h with _ h
  injection h with _ h
  cases h
 | n + 1, e, acc, r, m, he, h => by
  unfold dscE at h
  by_cases hlt : e < s.size
  ·rw [if_pos hlt] at h
   by_cases h59 : (s.data.toList.getD e 0).toNat = 59
   ·rw [if_pos h59] at h
    by_cases h0 : runE isK s.data.toList (e + 1) = e + 1
    ·rw [if_pos h0] at h
     injection h with _ h
     injection h with _ h
     cases h
    ·rw [if_neg h0] at h
     have h1 := runE_le isK s.data.toList (e + 1) (by rw [size_l]; omega)
     rw [size_l] at h1
     obtain ⟨hm, zs, hr, hd, hz⟩ := dscE_inv s n _ _ r m h1.2 h
     have hlt' : e < s.data.toList.length := by rw [size_l]; exact hlt
     have hx : (s.extract (e + 1) (runE isK s.data.toList (e + 1))).data.toList = (s.data.toList.drop (e + 1)).takeWhile isK := by
      rw [ByteArray.data_extract, Array.toList_extract, List.extract_eq_take_drop]
      unfold runE
      rw [show e + 1 + ((s.data.toList.drop (e + 1)).takeWhile isK).length - (e + 1) = ((s.data.toList.drop (e + 1)).takeWhile isK).length by omega, take_while]
     rw [hx] at hr
     refine ⟨hm, (s.data.toList.drop (e + 1)).takeWhile isK :: zs, by rw [hr]; simp, ?_, ?_⟩
     ·rw [semis_cons, ← hd, List.drop_eq_getElem_cons hlt']
      have e59 : s.data.toList[e] = 59 := by
       rw [List.getD, List.getElem?_eq_getElem hlt', Option.getD_some] at h59
       exact UInt8.toNat_inj.1 (by rw [h59]; rfl)
      rw [e59]
      congr 1
      have hk := while_drop (s.data.toList.drop (e + 1))
      rw [List.drop_drop] at hk
      unfold runE
      exact hk
     ·intro z hz'
      rcases List.mem_cons.1 hz' with rfl | hz'
      ·refine ⟨fun q => h0 ?_, fun b hb => mem_while isK _ b hb⟩
       unfold runE
       rw [q]
       rfl
      ·exact hz z hz'
   ·rw [if_neg h59] at h
    injection h with _ h
    injection h with _ h
    cases h
  ·rw [if_neg hlt] at h
   injection h with h1 h
   injection h with h2 _
   refine ⟨by omega, [], by rw [← h1]; simp, ?_, by simp⟩
   rw [List.drop_of_length_le (by rw [size_l]; omega)]
   rfl
theorem desc_inv (f : ByteArray) (h : (desc f).2.2 = true) : f.data.toList = (typD f).data.toList ++ semis (desc f).1 ∧ typE (typD f).data.toList = ((typD f).data.toList.length, true) ∧ (desc f).2.1 = f.size ∧ ∀ z ∈ (desc f).1, z ≠ [] ∧ ∀ b ∈ z, isK b = true := by
 have hT : (typE f.data.toList).2 = true := by
  unfold desc at h
  by_cases q : (typE f.data.toList).2 = true
  ·exact q
  ·rw [if_neg q] at h; cases h
 have hle := typE_le f.data.toList
 obtain ⟨r, m, b, hd⟩ : ∃ r m b, desc f = (r, m, b) := ⟨_, _, _, rfl⟩
 rw [hd] at h ⊢
 have hb : b = true := h
 subst hb
 unfold desc at hd
 rw [if_pos hT] at hd
 obtain ⟨hm, zs, hr, hdr, hz⟩ := dscE_inv f _ _ [] r m (by rw [size_l] at hle; exact hle) hd
 rw [List.nil_append] at hr
 subst hr
 have hty : (typD f).data.toList = f.data.toList.take (typE f.data.toList).1 := by
  unfold typD
  rw [ByteArray.data_extract, Array.toList_extract, List.extract_eq_take_drop]
  simp
 have hsp : f.data.toList = (typD f).data.toList ++ semis r := by
  rw [hty, ← hdr, List.take_append_drop]
 refine ⟨hsp, ?_, hm, hz⟩
 have he : typE f.data.toList = typE (typD f).data.toList := by
  conv => lhs; rw [hsp]
  exact typE_semis _ _
 rw [← he]
 refine Prod.ext ?_ hT
 show (typE f.data.toList).1 = _
 rw [hty, List.length_take]
 omega
end Go.Proofs.YtkknenmpdimdbaaGreatDoor

namespace Go.Proofs.YtkknenmpdimdbaaGreatDoor
set_option linter.unusedVariables false
theorem less_iff : ∀ x y : List UInt8, Op.bytesLess x y = true ↔ x < y
 | _, [] => by simp [Op.bytesLess]
 | [], b :: y => by simp [Op.bytesLess]
 | a :: x, b :: y => by
  rw [List.cons_lt_cons_iff]
  unfold Op.bytesLess
  rw [Bool.or_eq_true, Bool.and_eq_true, decide_eq_true_iff, beq_iff_eq, less_iff x y]
def Up (r : List (List UInt8)) : Prop := r.Pairwise (fun x y => x < y)
end Go.Proofs.YtkknenmpdimdbaaGreatDoor
namespace Go.Proofs.YtkknenmpdimdbaaGreatDoor
open Go.RowKit
set_option linter.unusedVariables false
theorem Row.take {w : World} {a : Option Addr} {l : List (List UInt8)} (h : Row w a l) (k : Nat) : Row w a (l.take k) := fun i hi => by
 rw [List.length_take] at hi
 obtain ⟨b, off, e, h1⟩ := h i (by omega)
 refine ⟨b, off, e, ?_⟩
 rw [h1, List.getElem_take]
theorem Row.drop {w : World} {b off : Nat} {l : List (List UInt8)} (h : Row w (some ⟨b, off, none⟩) l) (k : Nat) : Row w (some ⟨b, off + k, none⟩) (l.drop k) := fun i hi => by
 rw [List.length_drop] at hi
 obtain ⟨b', off', e, h1⟩ := h (k + i) (by omega)
 injection e with e
 injection e with e1 e2
 subst e1 e2
 refine ⟨b, off + k, rfl, ?_⟩
 rw [Nat.add_assoc, h1, List.getElem_drop]
end Go.Proofs.YtkknenmpdimdbaaGreatDoor
namespace Go.Proofs.YtkknenmpdimdbaaGreatDoor
open Go.RowKit
open TextMath (fold lo)
set_option linter.unusedVariables false
set_option maxRecDepth 100000 in
set_option maxHeartbeats 1000000 in
theorem canonR_any (s : ByteArray) (w : World) (hs : s.size ≤ 140737488355328) :
  Calls Tryz.prog 76 #[.string s] w fun e w' => e = .returned (.string (canN (S (fold s.data.toList)))) ∧ Below w.heap.size w w' := by
 have hR := refRow_any s w hs
 have hF : ∀ W, Hid (Calls Tryz.prog 77 #[.string s] W fun e w' => e = .returned (.string (S (fold s.data.toList))) ∧ Below W.heap.size W w') := fun W => rFold_any s W hs
 generalize S (fold s.data.toList) = f at *
 go_enter Tryz.func76, Tryz.ntmps76
 go_wp2_with fail
 refine hR.mono ?_
 rintro e W1 ⟨rfl, hb1⟩
 have o1 : Hid (Below w.heap.size w W1) := hb1
 clear hR hb1
 cases hr : rowOf f with
 | none =>
  have hn : rowN f = -1 := by unfold rowN; rw [hr]
  have hc : Hid (canN f = f) := by unfold Hid canN; rw [hr]
  rw [hn]
  have hF1 := hF W1
  clear hn hr hF
  go_wp2_with fail
  refine hF1.out.mono ?_
  rintro e W2 ⟨rfl, hb2⟩
  have o2 : Hid (Below w.heap.size w W2) := o1.out.trans (hb2.mono o1.out.size)
  clear hF1 hb2
  go_wp2_with fail
  go_ret
  exact ⟨by rw [hc.out]; rfl, o2.out⟩
 | some i =>
  have hn : rowN f = (i.1 : Int) := by unfold rowN; rw [hr]
  have hc : Hid (canN f = (rowL i).1) := by unfold Hid canN; rw [hr]
  rw [hn]
  have i0 : (0 : Int) ≤ (i.1 : Int) := Int.natCast_nonneg _
  have i1 : (i.1 : Int) < 62 := by have := i.2; omega
  have i2 : ¬ (i.1 : Int) < 0 := by omega
  have hN := names_q W1
  clear hn hr hF
  go_wp2_with fail
  refine hN.mono ?_
  rintro e W2 ⟨cs, rfl, hcs, hcz, hco, hb2⟩
  have st := st_nams W2 cs hcz hco
  obtain ⟨W3, hW3⟩ : ∃ W3, W2.alloc (.cells cs 171) = W3 := ⟨_, rfl⟩
  rw [hW3] at st
  have hB3 : Hid (Below w.heap.size w W3) := by
   have h : Below W1.heap.size W1 W3 := by rw [← hW3]; exact hb2.alloc hb2.size _
   exact o1.out.trans (h.mono o1.out.size)
  have hn3 : Nams W3 W2.heap.size := by unfold Nams; rw [hcs.out, ← hW3]; exact heap_alloc_last W2 _
  obtain ⟨c0, c1, c2⟩ := hn3.cells i
  clear hN hb2 hco hW3
  go_wp2_with fail
  go_ret
  exact ⟨by rw [hc.out]; rfl, hB3.out⟩
end Go.Proofs.YtkknenmpdimdbaaGreatDoor
namespace Go.Proofs.YtkknenmpdimdbaaGreatDoor
open Go.RowKit
open TextMath (fold lo)
set_option linter.unusedVariables false
theorem sp_join : ∀ l : List UInt8, l = (sp 59 l).headD [] ++ semis (sp 59 l).tail
 | [] => rfl
 | b :: l => by
  by_cases hb : b = 59
  ·subst hb
   rw [sp_at]
   show _ = [] ++ semis (sp 59 l)
   conv => rhs; rw [sp_cons]
   rw [List.nil_append, semis_cons]
   congr 1
   exact sp_join l
  ·rw [sp_on 59 b l hb]
   show b :: l = (b :: (sp 59 l).headD []) ++ semis (sp 59 l).tail
   rw [List.cons_append]
   congr 1
   exact sp_join l
theorem typ_dfa' (z : List UInt8) (h : typE z = (z.length, true)) : 59 ∉ z := by
 intro hm
 have hd := desc_semis z [] h (by simp)
 have h1 : desc (S z) = ([], (S z).size, true) := by
  have h2 := hd.1
  rw [show semis [] = [] from rfl, List.append_nil] at h2
  exact h2
 have hj := sp_join z
 have hz : (sp 59 z).tail ≠ [] := by
  intro q
  rw [q, show semis [] = [] from rfl, List.append_nil] at hj
  have := (sp_mem 59 z _ (sp_head 59 z)).1
  rw [← hj] at this
  exact this hm
 have hty : typE z = typE ((sp 59 z).headD []) := by
  conv => lhs; rw [hj]
  exact typE_semis _ _
 have hle := typE_le ((sp 59 z).headD [])
 rw [← hty, h] at hle
 have hlen := congrArg List.length hj
 rw [List.length_append] at hlen
 have hpos : 0 < (semis (sp 59 z).tail).length := by
  have := semis_len (sp 59 z).tail
  have := List.length_pos_iff.2 hz
  omega
 simp only at hle
 omega
end Go.Proofs.YtkknenmpdimdbaaGreatDoor
namespace Go.Proofs.YtkknenmpdimdbaaGreatDoor
open Go.RowKit
open TextMath (fold lo)
set_option linter.unusedVariables false
end Go.Proofs.YtkknenmpdimdbaaGreatDoor

namespace Go.Proofs.YtkknenmpdimdbaaGreatDoor
open TextMath (fold lo)
set_option linter.unusedVariables false
theorem sp_has (c b : UInt8) (hbc : b ≠ c) : ∀ l : List UInt8, b ∈ l → ∃ z ∈ sp c l, b ∈ z
 | [], h => by simp at h
 | x :: l, h => by
  by_cases hx : x = c
  ·subst hx
   rcases List.mem_cons.1 h with h | h
   ·exact absurd h hbc
   ·obtain ⟨z, h1, h2⟩ := sp_has x b hbc l h
    exact ⟨z, by rw [sp_at]; exact List.mem_cons_of_mem _ h1, h2⟩
  ·rw [sp_on c x l hx]
   rcases List.mem_cons.1 h with h | h
   ·exact ⟨_, List.mem_cons_self, by rw [h]; exact List.mem_cons_self⟩
   ·obtain ⟨z, h1, h2⟩ := sp_has c b hbc l h
    rw [sp_cons] at h1
    rcases List.mem_cons.1 h1 with h1 | h1
    ·exact ⟨_, List.mem_cons_self, by rw [h1] at h2; exact List.mem_cons_of_mem _ h2⟩
    ·exact ⟨z, List.mem_cons_of_mem _ h1, h2⟩
theorem typ_all (m : List UInt8) : typB m = (decide (59 ∉ m) && dacc (drun 0 m)) := by
 by_cases h : 59 ∈ m
 ·rw [decide_eq_false (fun q => q h), Bool.false_and]
  unfold typB
  split
  ·rfl
  ·split
   ·unfold keysB
    rw [Bool.and_eq_false_iff]
    left
    rw [Bool.eq_false_iff]
    intro q
    have := List.all_eq_true.1 q 59 h
    revert this
    decide
   ·rw [Bool.and_eq_false_iff]
    left
    rw [Bool.eq_false_iff]
    intro q
    obtain ⟨z, h1, h2⟩ := sp_has 46 59 (by decide) m h
    have := List.all_eq_true.1 q z h1
    unfold numB at this
    rw [Bool.and_eq_true] at this
    have := List.all_eq_true.1 this.1 59 h2
    revert this
    decide
 ·rw [decide_eq_true h, Bool.true_and, typ_dfa m h]
def cutS (m : List UInt8) : List UInt8 := m.takeWhile (fun b => b != 59)
theorem cutS_no (m : List UInt8) : 59 ∉ cutS m := fun h => by
 have := List.all_takeWhile (p := fun b : UInt8 => b != 59) (l := m)
 have h2 := List.all_eq_true.1 this 59 h
 simp at h2
theorem cutS_or (m : List UInt8) : m = cutS m ∨ ∃ r, m = cutS m ++ 59 :: r := by
 have h := List.takeWhile_append_dropWhile (p := fun b : UInt8 => b != 59) (l := m)
 cases hd : m.dropWhile (fun b : UInt8 => b != 59) with
 | nil => left; rw [hd, List.append_nil] at h; exact h.symm
 | cons b r =>
  right
  refine ⟨r, ?_⟩
  have hb : (b != 59) = false := by
   have := List.head_dropWhile_not (fun b : UInt8 => b != 59) (l := m) (by rw [hd]; simp)
   simp only [hd, List.head_cons] at this
   exact this
  have : b = 59 := by simpa using hb
  subst this
  rw [hd] at h
  exact h.symm
theorem typ_plc (z : List UInt8) (h : 59 ∉ z) : (typE z).1 = plc 0 z := by
 have hd := (desc_dfa (S z)).1
 rw [S_l] at hd
 rw [← hd]
 unfold desc
 rw [S_l]
 split
 ·rename_i hk
  have hz : (S z).size = z.length := by rw [← size_l, S_l]
  unfold dscE
  split
  ·rename_i hlt
   rw [S_l]
   have hlt' : (typE z).1 < z.length := by omega
   have hne : ¬ (z.getD (typE z).1 0).toNat = 59 := by
    rw [List.getD, List.getElem?_eq_getElem hlt', Option.getD_some]
    intro q
    exact h (by rw [show (59 : UInt8) = z[(typE z).1] from UInt8.toNat_inj.1 (by rw [q]; rfl)]; exact List.getElem_mem hlt')
   rw [if_neg hne]
  ·rfl
 ·rfl
theorem typ_place (m : List UInt8) : (typE m).1 = plc 0 (cutS m) := by
 rw [← typ_plc _ (cutS_no m)]
 rcases cutS_or m with h | ⟨r, h⟩
 ·rw [← h]
 ·conv => lhs; rw [h]
  rw [typE_semi]
theorem typ_ok (m : List UInt8) : ((typE m).2 = true ∧ ¬ (typE m).1 < m.length) ↔ typB m = true := by
 have hle := typE_le m
 rw [typ_all, Bool.and_eq_true, decide_eq_true_iff]
 have hd := (desc_dfa (S m)).2
 rw [S_l] at hd
 rw [← hd]
 constructor
 ·rintro ⟨h1, h2⟩
  have hT : typE m = (m.length, true) := Prod.ext (by show (typE m).1 = m.length; omega) h1
  have h := desc_semis m [] hT (by simp)
  rw [show semis [] = [] from rfl, List.append_nil] at h
  exact ⟨typ_dfa' m hT, by rw [h.1]⟩
 ·rintro ⟨h1, h2⟩
  obtain ⟨i1, i2, i3, i4⟩ := desc_inv (S m) h2
  rw [S_l] at i1
  have hnil : (desc (S m)).1 = [] := by
   cases hc : (desc (S m)).1 with
   | nil => rfl
   | cons z t =>
    rw [hc, semis_cons] at i1
    exact absurd (by rw [i1]; exact List.mem_append_right _ List.mem_cons_self) h1
  rw [hnil, show semis [] = [] from rfl, List.append_nil] at i1
  rw [← i1] at i2
  rw [i2]
  exact ⟨rfl, by simp⟩
def goesT (t : List UInt8) : Bool := typB t || typB (t ++ [97]) || typB (t ++ [49]) || typB (t ++ [46, 49])
theorem goesT_iff (t : List UInt8) : goesT t = (decide (59 ∉ t) && decide (drun 0 t ≠ 9)) := by
 unfold goesT
 rw [typ_all, typ_all, typ_all, typ_all]
 have e1 : (59 ∉ t ++ [97]) ↔ 59 ∉ t := by simp
 have e2 : (59 ∉ t ++ [49]) ↔ 59 ∉ t := by simp
 have e3 : (59 ∉ t ++ [46, 49]) ↔ 59 ∉ t := by simp
 rw [decide_eq_decide.2 e1, decide_eq_decide.2 e2, decide_eq_decide.2 e3, ← goes_iff]
 unfold goesL
 cases decide (59 ∉ t) <;> simp
theorem take_cut (m : List UInt8) (n : Nat) (hn : n ≤ m.length) : (59 ∉ m.take n ∧ drun 0 (m.take n) ≠ 9) ↔ n ≤ plc 0 (cutS m) := by
 have hp := plc_le (cutS m) 0
 have hfr : ∀ k, k ≤ (cutS m).length → m.take k = (cutS m).take k := fun k hk => by
  rcases cutS_or m with h | ⟨r, h⟩
  ·rw [← h]
  ·conv => lhs; rw [h]
   rw [List.take_append_of_le_length hk]
 constructor
 ·rintro ⟨h1, h2⟩
  rcases Nat.lt_or_ge (cutS m).length n with q | q
  ·exfalso
   rcases cutS_or m with h | ⟨r, h⟩
   ·have := congrArg List.length h; omega
   ·apply h1
    rw [h, List.take_append]
    refine List.mem_append_right _ ?_
    rw [show n - (cutS m).length = (n - (cutS m).length - 1) + 1 by omega, List.take_succ_cons]
    exact List.mem_cons_self
  ·rw [hfr n q] at h2
   rcases Nat.lt_or_ge (plc 0 (cutS m)) n with q2 | q2
   ·exfalso
    exact drun_front _ _ n (by omega) h2 (plc_with _ 0 (by omega))
   ·exact q2
 ·intro h
  have hl : n ≤ (cutS m).length := by omega
  rw [hfr n hl]
  exact ⟨fun q => cutS_no m (List.mem_of_mem_take q), drun_front _ n _ h (plc_ahead _ 0 (by decide))⟩
end Go.Proofs.YtkknenmpdimdbaaGreatDoor

namespace Go.Proofs.YtkknenmpdimdbaaGreatDoor
open Go.RowKit
def prt (t : List UInt8) (X : Nat → ByteArray) : Nat → List UInt8
 | 0 => t
 | i + 1 => prt t X i ++ [59] ++ (X i).data.toList
end Go.Proofs.YtkknenmpdimdbaaGreatDoor

namespace Go.Proofs.YtkknenmpdimdbaaGreatDoor
open Go.RowKit
open TextMath (fold lo)
set_option linter.unusedVariables false
end Go.Proofs.YtkknenmpdimdbaaGreatDoor

namespace Go.Proofs.YtkknenmpdimdbaaGreatDoor
open Go.RowKit
open TextMath (fold lo)
set_option linter.unusedVariables false
def okT (s : ByteArray) : Bool := typB (fold s.data.toList)
theorem okT_app (t : ByteArray) (i : Nat) : okT (t ++ endR i) = typB (fold t.data.toList ++ (endR i).data.toList) := by
 unfold okT
 rw [ByteArray.data_append, Array.toList_append, fold_appR, endR_fold]
theorem goesT_ends (l : List UInt8) : goesT l = (typB (l ++ (endR 0).data.toList) || typB (l ++ (endR 1).data.toList) || typB (l ++ (endR 2).data.toList) || typB (l ++ (endR 3).data.toList)) := by
 have : (endR 0).data.toList = [] := rfl
 rw [this, List.append_nil]
 rfl
set_option maxRecDepth 100000 in
set_option maxHeartbeats 2000000 in
theorem goesRT_any (t : ByteArray) (w : World) (ht : t.size ≤ 4194300) :
  Calls Tryz.prog 104 #[.string t, .bool true] w fun e w' => e = .returned (.bool (goesT (fold t.data.toList))) ∧ Below w.heap.size w w' := by
 have hP : ∀ i W, Hid (Calls Tryz.prog 74 #[.string (t ++ endR i)] W fun e w' => e = .returned (.bool (okT (t ++ endR i))) ∧ Below W.heap.size W w') := fun i W => isType_any _ W (by
  have := endR_size i
  rw [ByteArray.size_append]
  omega)
 have hg : Hid (goesT (fold t.data.toList) = (okT (t ++ endR 0) || okT (t ++ endR 1) || okT (t ++ endR 2) || okT (t ++ endR 3))) := by
  unfold Hid
  rw [goesT_ends, okT_app, okT_app, okT_app, okT_app]
 obtain ⟨g, hgg⟩ : ∃ g, goesT (fold t.data.toList) = g := ⟨_, rfl⟩
 rw [hgg]
 rw [hgg] at hg
 clear hgg
 obtain ⟨W0, hW0⟩ : ∃ W0, w.alloc (.cells #[.string ⟨#[]⟩, .string ⟨#[97]⟩, .string ⟨#[49]⟩, .string ⟨#[46, 49]⟩] 208) = W0 := ⟨_, rfl⟩
 have hB0 : Below w.heap.size w W0 := by rw [← hW0]; exact (Below.refl _ _).alloc (Nat.le_refl _) _
 have h0 : W0.heap[w.heap.size]? = some (.cells #[.string ⟨#[]⟩, .string ⟨#[97]⟩, .string ⟨#[49]⟩, .string ⟨#[46, 49]⟩] 208 (0, 0)) := by rw [← hW0]; exact heap_alloc_last w _
 have hI0 : Hid (Below w.heap.size w W0 ∧ W0.heap[w.heap.size]? = some (.cells #[.string ⟨#[]⟩, .string ⟨#[97]⟩, .string ⟨#[49]⟩, .string ⟨#[46, 49]⟩] 208 (0, 0))) := ⟨hB0, h0⟩
 clear hB0 h0
 go_enter Tryz.func104, Tryz.ntmps104
 go_wp2_with fail
 go_loopw [6] (fun iv wr => ∃ i : Nat, i ≤ 4 ∧ iv = .int .i64 (i : Int) ∧ Hid (∀ j, j < i → okT (t ++ endR j) = false) ∧ Hid (Below w.heap.size w wr ∧ wr.heap[w.heap.size]? = some (.cells #[.string ⟨#[]⟩, .string ⟨#[97]⟩, .string ⟨#[49]⟩, .string ⟨#[46, 49]⟩] 208 (0, 0)))) (fun iv _ => 4 - (intOf iv).toNat)
 case atStart => exact ⟨0, by omega, rfl, fun j hj => by omega, hI0⟩
 case round =>
  obtain ⟨i, hi, rfl, hno, hI⟩ := hrel
  clear hI0 hW0
  by_cases hlt : i < 4
  ·have hc : wr.cell? ⟨w.heap.size, i, none⟩ = some (.string (endR i)) := by
    rw [(row_cell hI.out.2 (j := i) hlt).1]
    rcases i with _ | _ | _ | _ | i
    ·rfl
    ·rfl
    ·rfl
    ·rfl
    ·omega
   have i0 : (0 : Int) ≤ (i : Int) := Int.natCast_nonneg _
   have i1 : (i : Int) < 4 := by omega
   have hPi := hP i wr
   have hmx : ¬ t.size + (endR i).size > 9223372036854775807 := by
    have := endR_size i
    omega
   obtain ⟨r, hr⟩ : ∃ r, okT (t ++ endR i) = r := ⟨_, rfl⟩
   rw [hr] at hPi
   have hr' : Hid (okT (t ++ endR i) = r) := hr
   clear hr hP
   go_wp2_with fail
   refine hPi.out.mono ?_
   rintro e w1 ⟨rfl, hb1⟩
   have hI1 : Hid (Below w.heap.size w w1 ∧ w1.heap[w.heap.size]? = some (.cells #[.string ⟨#[]⟩, .string ⟨#[97]⟩, .string ⟨#[49]⟩, .string ⟨#[46, 49]⟩] 208 (0, 0))) := ⟨hI.out.1.trans (hb1.mono hI.out.1.size), (hb1.block _ (Array.getElem?_eq_some_iff.1 hI.out.2).1).trans hI.out.2⟩
   clear hPi hb1 hI hc
   cases r with
   | true =>
    have hgt : Hid (g = true) := by
     unfold Hid
     rw [hg.out]
     have h := hr'.out
     rcases i with _ | _ | _ | _ | i
     ·rw [h]; rfl
     ·rw [h, Bool.or_true]; rfl
     ·rw [h, Bool.or_true]; rfl
     ·rw [h, Bool.or_true]
     ·omega
    go_wp2_with fail
    go_ret
    exact ⟨by rw [hgt.out]; rfl, hI1.out.1⟩
   | false =>
    go_wp2_with fail
    go_roundw
    case rel => exact ⟨i + 1, by omega, by simp, fun j hj => by
           rcases Nat.lt_or_ge j i with h | h
           ·exact hno.out j h
           ·have : j = i := by omega
            subst this
            exact hr'.out, hI1⟩
    case measure => simp [intOf]; omega
  ·have i1 : ¬ (i : Int) < 4 := by omega
   have hgf : Hid (g = false) := by
    unfold Hid
    rw [hg.out, hno.out 0 (by omega), hno.out 1 (by omega), hno.out 2 (by omega), hno.out 3 (by omega)]
    rfl
   go_wp2_with fail
   go_ret
   exact ⟨by rw [hgf.out]; rfl, hI.out.1⟩
def onT (s : ByteArray) (n : Nat) : Bool := goesT (fold (s.extract 0 n).data.toList)
theorem onT_iff (s : ByteArray) (n : Nat) (hn : n ≤ s.size) : onT s n = decide (n ≤ plc 0 (cutS (fold s.data.toList))) := by
 unfold onT
 rw [goesT_iff, cut_lR]
 have e : fold (s.data.toList.take n) = (fold s.data.toList).take n := by simp [fold]
 rw [e, Bool.eq_iff_iff, Bool.and_eq_true, decide_eq_true_iff, decide_eq_true_iff, decide_eq_true_iff]
 exact take_cut _ n (by rw [fold_len, size_l]; exact hn)
set_option maxRecDepth 100000 in
set_option maxHeartbeats 2000000 in
theorem placeRT_any (s : ByteArray) (w : World) (hs : s.size ≤ 4194300) :
  Calls Tryz.prog 75 #[.string s, .bool true] w fun e w' => e = .returned (.int .i64 (plc 0 (cutS (fold s.data.toList)) : Int)) ∧ Below w.heap.size w w' := by
 obtain ⟨p, hp⟩ : ∃ p, plc 0 (cutS (fold s.data.toList)) = p := ⟨_, rfl⟩
 have hon : Hid (∀ n, n ≤ s.size → onT s n = decide (n ≤ p)) := fun n hn => by rw [← hp]; exact onT_iff s n hn
 have hps : p ≤ s.size := by
  rw [← hp]
  have h1 := plc_le (cutS (fold s.data.toList)) 0
  have h2 : (cutS (fold s.data.toList)).length ≤ (fold s.data.toList).length := (List.takeWhile_prefix _).length_le
  rw [fold_len, size_l] at h2
  omega
 rw [hp]
 have hG : ∀ n W, Hid (Calls Tryz.prog 104 #[.string (s.extract 0 n), .bool true] W fun e w' => e = .returned (.bool (onT s n)) ∧ Below W.heap.size W w') := fun n W => goesRT_any _ W (by rw [ByteArray.size_extract]; omega)
 have hps' : Hid (p ≤ s.size) := hps
 clear hp hps
 go_enter Tryz.func75, Tryz.ntmps75
 go_wp2_with fail
 go_loopw [5, 6] (fun av bv wr => ∃ a b : Nat, a ≤ b ∧ b ≤ s.size ∧ av = .int .i64 (a : Int) ∧ bv = .int .i64 (b : Int) ∧ Hid (a ≤ p ∧ p ≤ b) ∧ Hid (Below w.heap.size w wr)) (fun av bv _ => (intOf bv).toNat - (intOf av).toNat)
 case atStart => exact ⟨0, s.size, Nat.zero_le _, Nat.le_refl _, rfl, rfl, ⟨Nat.zero_le _, hps'.out⟩, Below.refl _ _⟩
 case round =>
  obtain ⟨a, b, hab, hb, rfl, rfl, hap, hB⟩ := hrel
  by_cases hlt : a < b
  ·have h1 : (a : Int) < (b : Int) := Int.ofNat_lt.2 hlt
   obtain ⟨m, hm⟩ : ∃ m, (a + b + 1) / 2 = m := ⟨_, rfl⟩
   have hm1 : a + 1 ≤ m ∧ m ≤ b := by omega
   have hdiv : ((a : Int) + (b : Int) + 1).tdiv 2 = (m : Int) := by
    rw [show (a : Int) + (b : Int) + 1 = ((a + b + 1 : Nat) : Int) by omega, ← hm]
    rfl
   have hGm := hG m wr
   have hom := hon.out m (by omega)
   rw [hom] at hGm
   have m0 : (0 : Int) ≤ (m : Int) := Int.natCast_nonneg _
   have m1 : (m : Int) ≤ (s.size : Int) := by omega
   have hm2 : Hid (a + 1 ≤ m ∧ m ≤ b ∧ b ≤ s.size) := ⟨hm1.1, hm1.2, hb⟩
   have hs4 : s.size ≤ 4194300 := hs
   clear hm hm1 hom hG
   by_cases hmp : m ≤ p
   ·rw [decide_eq_true hmp] at hGm
    have hmp' : Hid (m ≤ p) := hmp
    clear hmp
    go_wp2_with fail
    refine hGm.out.mono ?_
    rintro e w1 ⟨rfl, hb1⟩
    have o1 : Hid (Below w.heap.size w w1) := hB.out.trans (hb1.mono hB.out.size)
    clear hGm hb1
    go_wp2_with fail
    go_roundw
    case rel => exact ⟨m, b, hm2.out.2.1, hm2.out.2.2, rfl, rfl, ⟨hmp'.out, hap.out.2⟩, o1⟩
    case measure => have := hm2.out; simp [intOf]; omega
   ·rw [decide_eq_false hmp] at hGm
    have hmp' : Hid (¬ m ≤ p) := hmp
    clear hmp
    go_wp2_with fail
    refine hGm.out.mono ?_
    rintro e w1 ⟨rfl, hb1⟩
    have o1 : Hid (Below w.heap.size w w1) := hB.out.trans (hb1.mono hB.out.size)
    clear hGm hb1
    go_wp2_with fail
    go_roundw
    case rel =>
     have h3 := hm2.out
     have h4 := hmp'.out
     have h5 := hap.out
     refine ⟨a, m - 1, by omega, by omega, rfl, ?_, ⟨h5.1, by omega⟩, o1⟩
     congr 1
     omega
    case measure => have := hm2.out; simp [intOf]; omega
  ·have hpe : Hid (p = a) := by have := hap.out; unfold Hid; omega
   have h1 : ¬ (a : Int) < (b : Int) := by omega
   go_wp2_with fail
   go_ret
   exact ⟨by rw [hpe.out]; rfl, hB.out⟩
set_option maxRecDepth 100000 in
set_option maxHeartbeats 1000000 in
theorem parseTypeR_any (s : ByteArray) (w : World) (hs : s.size ≤ 4194300) :
  Calls Tryz.prog 47 #[.string s] w fun e w' => e = .returned (.tuple #[.string (parsT (S (fold s.data.toList))).1, .int .i64 (parsT (S (fold s.data.toList))).2.1, .int .i64 ((parsT (S (fold s.data.toList))).2.2 : Int)]) ∧ Below w.heap.size w w' := by
 have hI := isType_any s w (by omega)
 have hok := typ_ok (fold s.data.toList)
 have hpl := typ_place (fold s.data.toList)
 have hC : ∀ W, Hid (Calls Tryz.prog 76 #[.string s] W fun e w' => e = .returned (.string (canN (S (fold s.data.toList)))) ∧ Below W.heap.size W w') := fun W => canonR_any s W (by omega)
 have hP : ∀ W, Hid (Calls Tryz.prog 75 #[.string s, .bool true] W fun e w' => e = .returned (.int .i64 ((typE (fold s.data.toList)).1 : Int)) ∧ Below W.heap.size W w') := fun W => by
  have h := placeRT_any s W hs
  rw [← hpl] at h
  exact h
 have hfs : (fold s.data.toList).length = s.size := by rw [fold_len, size_l]
 have hle := typE_le (fold s.data.toList)
 have hsz : (S (fold s.data.toList)).size = s.size := fold_size s
 have hT : Hid (parsT (S (fold s.data.toList)) = if typB (fold s.data.toList) = true then (canN (S (fold s.data.toList)), 0, s.size) else (⟨#[]⟩, 40, (typE (fold s.data.toList)).1)) := by
  unfold Hid parsT
  rw [S_l, hsz]
  rw [hfs] at hok
  by_cases q : typB (fold s.data.toList) = true
  ·have h2 := hok.2 q
   rw [if_pos h2, if_pos q]
   congr 2
   have := h2.2
   omega
  ·rw [if_neg (fun h => q (hok.1 h)), if_neg q]
 generalize parsT (S (fold s.data.toList)) = R at *
 obtain ⟨b, hb⟩ : ∃ b, typB (fold s.data.toList) = b := ⟨_, rfl⟩
 rw [hb] at hI hT
 clear hok hpl hfs hle hsz hb
 go_enter Tryz.func47, Tryz.ntmps47
 go_wp2_with fail
 refine hI.mono ?_
 rintro e W1 ⟨rfl, hb1⟩
 have o1 : Hid (Below w.heap.size w W1) := hb1
 clear hI hb1
 cases b with
 | false =>
  have hT' : Hid (R = (⟨#[]⟩, 40, (typE (fold s.data.toList)).1)) := hT.out
  have hP1 := hP W1
  clear hT hP hC
  go_wp2_with fail
  refine hP1.out.mono ?_
  rintro e W2 ⟨rfl, hb2⟩
  have o2 : Hid (Below w.heap.size w W2) := o1.out.trans (hb2.mono o1.out.size)
  clear hP1 hb2
  go_wp2_with fail
  go_ret3
  exact ⟨by rw [hT'.out]; rfl, o2.out⟩
 | true =>
  have hT' : Hid (R = (canN (S (fold s.data.toList)), 0, s.size)) := hT.out
  have hC1 := hC W1
  clear hT hP hC
  go_wp2_with fail
  refine hC1.out.mono ?_
  rintro e W2 ⟨rfl, hb2⟩
  have o2 : Hid (Below w.heap.size w W2) := o1.out.trans (hb2.mono o1.out.size)
  clear hC1 hb2
  go_wp2_with fail
  go_ret3
  exact ⟨by rw [hT'.out]; rfl, o2.out⟩
end Go.Proofs.YtkknenmpdimdbaaGreatDoor

namespace Go.Proofs.YtkknenmpdimdbaaGreatDoor
open Go.RowKit
open TextMath (ld wi seqLen check u)
def ROWS : List (List Int) := [[1, 0, 127, 0, 0, 0, 0, 0, 0], [2, 194, 223, 128, 191, 0, 0, 0, 0], [3, 224, 224, 160, 191, 128, 191, 0, 0], [3, 225, 236, 128, 191, 128, 191, 0, 0], [3, 237, 237, 128, 159, 128, 191, 0, 0], [3, 238, 239, 128, 191, 128, 191, 0, 0],
 [4, 240, 240, 144, 191, 128, 191, 128, 191], [4, 241, 243, 128, 191, 128, 191, 128, 191], [4, 244, 244, 128, 143, 128, 191, 128, 191]]
def R (r c : Nat) : Int := (ROWS.getD r []).getD c 0
def fit (r : Nat) (l : List UInt8) : Prop := R r 0 ≤ l.length ∧ ∀ k : Nat, (k : Int) < R r 0 → R r (1 + 2 * k) ≤ u (l.getD k 0) ∧ u (l.getD k 0) ≤ R r (2 + 2 * k)
def RowTab (w : World) : Prop := ∀ r c, r < 9 → c < 9 → w.cell? ⟨10, r * 9 + c, none⟩ = some (.int .i64 (R r c))
theorem R_small : ∀ r : Fin 9, 1 ≤ R r.val 0 ∧ R r.val 0 ≤ 4 := by decide
theorem drop_getD (l : List UInt8) (i k : Nat) : (l.drop i).getD k 0 = l.getD (i + k) 0 := by simp [List.getD, List.getElem?_drop]
theorem fit_of (s : ByteArray) (i r n : Nat) (hn : R r 0 = n) (hf : i + n ≤ s.size) (h : ∀ k, k < n → R r (1 + 2 * k) ≤ u (s.data.toList.getD (i + k) 0) ∧ u (s.data.toList.getD (i + k) 0) ≤ R r (2 + 2 * k)) : fit r (s.data.toList.drop i) := by
 refine ⟨?_, fun k hk => ?_⟩
 ·rw [hn, List.length_drop, size_l]; omega
 ·rw [drop_getD]; rw [hn] at hk; exact h k (by omega)
theorem fit_not (s : ByteArray) (i r n k : Nat) (hn : R r 0 = n) (hk : k < n) (h : u (s.data.toList.getD (i + k) 0) < R r (1 + 2 * k) ∨ R r (2 + 2 * k) < u (s.data.toList.getD (i + k) 0)) : ¬ fit r (s.data.toList.drop i) := by
 intro hf
 have := hf.2 k (by rw [hn]; omega)
 rw [drop_getD] at this
 omega
theorem fit_short (s : ByteArray) (i r : Nat) (hi : i ≤ s.size) (h : (s.size : Int) < i + R r 0) : ¬ fit r (s.data.toList.drop i) := by
 intro hf
 have := hf.1
 rw [List.length_drop, size_l] at this
 omega
set_option maxHeartbeats 1000000 in
theorem fits_any (s : ByteArray) (i r : Nat) (w : World) (hm : s.size ≤ 140737488355328) (hi : i ≤ s.size) (hr : r < 9) (ht : RowTab w) :
  Calls Tryz.prog 94 #[.string s, .int .i64 (i : Int), .int .i64 (r : Int)] w fun e w' => (∃ b, e = .returned (.bool b) ∧ (b = true ↔ fit r (s.data.toList.drop i))) ∧ w = w' := by
 have hc0 := ht r 0 hr (by omega)
 rw [Nat.add_zero] at hc0
 have hR := R_small ⟨r, hr⟩
 simp only [] at hR
 obtain ⟨n, hn⟩ : ∃ n : Nat, R r 0 = n := ⟨(R r 0).toNat, by omega⟩
 rw [hn] at hc0 hR
 have hn4 : n ≤ 4 := by omega
 have hr' : (r : Int) < 9 := by omega
 have HN : Hid (R r 0 = n) := hn
 clear hn hR
 by_cases hf : s.size < i + n
 ·have hno : Hid (¬ fit r (s.data.toList.drop i)) := fit_short s i r hi (by rw [HN.out]; omega)
  go_enter Tryz.func94, Tryz.ntmps94
  go_wp2
  go_ret
  exact ⟨⟨false, rfl, by simp [hno.out]⟩, rfl⟩
 ·go_enter Tryz.func94, Tryz.ntmps94
  go_wp2
  go_loop [8] (fun t => ∃ k : Nat, k ≤ n ∧ t = .int .i64 k ∧ Hid (∀ j, j < k → R r (1 + 2 * j) ≤ u (s.data.toList.getD (i + j) 0) ∧ u (s.data.toList.getD (i + j) 0) ≤ R r (2 + 2 * j))) (fun t => n - (intOf t).toNat)
  case atStart => exact ⟨0, Nat.zero_le _, rfl, fun _ h => by omega⟩
  case round =>
   obtain ⟨k, hk, rfl, hall⟩ := hrel
   by_cases hlt : k < n
   ·have c1 := ht r (1 + 2 * k) hr (by omega)
    have c2 := ht r (2 + 2 * k) hr (by omega)
    have e1 : ((1 : Int) + 2 * (k : Int)).toNat = 1 + 2 * k := by omega
    have e2 : ((2 : Int) + 2 * (k : Int)).toNat = 2 + 2 * k := by omega
    have hik : i + k < s.size := by omega
    have hg := getD_s s (i + k) hik
    have e3 : ((i : Int) + (k : Int)).toNat = i + k := by omega
    have hyes : Hid (R r (1 + 2 * k) ≤ (s[i + k].toNat : Int) ∧ (s[i + k].toNat : Int) ≤ R r (2 + 2 * k) → ∀ j, j < k + 1 → R r (1 + 2 * j) ≤ u (s.data.toList.getD (i + j) 0) ∧ u (s.data.toList.getD (i + j) 0) ≤ R r (2 + 2 * j)) := by
     intro h j hj
     by_cases e : j = k
     ·subst e; rw [hg]; exact h
     ·exact hall.out j (by omega)
    have hnot : Hid ((s[i + k].toNat : Int) < R r (1 + 2 * k) ∨ R r (2 + 2 * k) < (s[i + k].toNat : Int) → ¬ fit r (s.data.toList.drop i)) := fun h => fit_not s i r n k HN.out hlt (by rw [hg]; exact h)
    generalize R r (1 + 2 * k) = la at *
    generalize R r (2 + 2 * k) = lb at *
    have hb256 : s[i + k].toNat < 256 := s[i + k].toNat_lt
    clear hall hg
    by_cases t1 : (s[i + k].toNat : Int) < la
    ·have hno := hnot.out (Or.inl t1)
     have HNO : Hid (¬ fit r (s.data.toList.drop i)) := hno
     clear hno hnot hyes
     go_wp2
     go_ret
     exact ⟨⟨false, rfl, by simp [HNO.out]⟩, rfl⟩
    ·have d1 : decide ((s[i + k].toNat : Int) < la) = false := by simpa using t1
     by_cases t2 : lb < (s[i + k].toNat : Int)
     ·have HNO : Hid (¬ fit r (s.data.toList.drop i)) := hnot.out (Or.inr t2)
      clear hnot hyes
      go_wp2
      go_ret
      exact ⟨⟨false, rfl, by simp [HNO.out]⟩, rfl⟩
     ·have HY : Hid (_) := hyes.out ⟨by omega, by omega⟩
      have d2 : decide (lb < (s[i + k].toNat : Int)) = false := by simpa using t2
      clear hnot hyes
      go_wp2
      go_round
      case rel => exact ⟨k + 1, by omega, by go_num, HY⟩
      case measure => simp [intOf]; omega
   ·have hke : k = n := by omega
    have HF : Hid (fit r (s.data.toList.drop i)) := fit_of s i r n HN.out (by omega) (by rw [← hke]; exact hall.out)
    clear hall hke
    go_wp2
    go_ret
    exact ⟨Or.inr ⟨rfl, HF.out⟩, rfl⟩
end Go.Proofs.YtkknenmpdimdbaaGreatDoor
