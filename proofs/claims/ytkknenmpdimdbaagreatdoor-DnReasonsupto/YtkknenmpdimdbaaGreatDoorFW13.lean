import Derived.Test.YtkknenmpdimdbaaGreatDoorFW12
import Derived.Lib.AppendZeros
import Derived.Test.YtkknenmpdimdbaaGreatDoorFW11
import Derived.Sort.OwnSorted
import Derived.Test.YtkknenmpdimdbaaGreatDoorFW8
import Derived.Test.YtkknenmpdimdbaaGreatDoorFW10
import Derived.Test.YtkknenmpdimdbaaGreatDoorFW9
namespace Go.Proofs.YtkknenmpdimdbaaGreatDoor
namespace Ke
open Go.RowKit
set_option linter.unusedVariables false
set_option linter.unusedSimpArgs false
set_option maxRecDepth 100000
theorem mst_edge_int (n i : Nat) (c : UInt8) (r : Bool) (hr : ([92, 34, 43, 44, 59, 60, 62] : List UInt8).contains c = r) : mst n i c = ((((((i : Int) == 0) && (((c.toNat : Int) == 32) || ((c.toNat : Int) == 35))) || (((i : Int) == (n : Int) - 1) && ((c.toNat : Int) == 32)))) || r) := by
 rw [mst_edge, hr, u8_beq c 32, u8_beq c 35]
 have e1 : decide (i = 0) = ((i : Int) == 0) := by rw [Bool.eq_iff_iff]; simp
 have e2 : decide (i + 1 = n) = ((i : Int) == (n : Int) - 1) := by rw [Bool.eq_iff_iff]; simp; omega
 rw [e1, e2]
 rfl
set_option maxHeartbeats 4000000 in
theorem escape_any (v : ByteArray) (w : World) (hs : v.size ≤ 300000000000) :
  Calls Tryz.prog 45 #[.string v] w fun e w' => e = .returned (.string (S (escV v.data.toList))) ∧ Below w.heap.size w w' := by
 have hL : Hid (v.data.toList.length = v.size) := size_l v
 go_enter Tryz.func45, Tryz.ntmps45
 go_wp2_with fail
 go_loopw [3, 4] (fun bq i wr => ∃ (ba : Option Addr) (bn bc k : Nat), bq = .slice ba bn bc ∧ k ≤ v.size ∧ i = .int .i64 k ∧ Hid (Own wr w.heap.size (.slice ba bn bc) (escF v.size 0 (v.data.toList.take k)) ∧ Below w.heap.size w wr)) (fun _ i _ => v.size - (intOf i).toNat)
 case atStart => exact ⟨none, 0, 0, 0, rfl, Nat.zero_le _, rfl, ⟨by rw [List.take_zero]; exact ⟨rfl, Or.inl ⟨rfl, rfl⟩⟩, Below.refl _ _⟩⟩
 case round =>
  obtain ⟨ba, bn, bc, k, rfl, hk, rfl, hR⟩ := hrel
  by_cases hlt : k < v.size
  ·have hsn : Hid (escF v.size 0 (v.data.toList.take (k + 1)) = escF v.size 0 (v.data.toList.take k) ++ ec v.size k v[k]) := escV_snoc v k hlt
   have hlen : Hid ((escF v.size 0 (v.data.toList.take k)).length + 4 ≤ 1099511627776) := by
    unfold Hid
    have := escF_len v.size (v.data.toList.take k) 0
    rw [List.length_take] at this
    have := hL.out
    omega
   have c5 : (0 : Int) ≤ (k : Int) := by omega
   have c6 : (k : Int) < (v.size : Int) := by omega
   have hma : Hid (∀ w, Calls Tryz.prog 73 #[.int .u8 (v[k].toNat : Int), .string { data := #[92, 34, 43, 44, 59, 60, 62] }] w fun e w' => e = .returned (.bool (([92, 34, 43, 44, 59, 60, 62] : List UInt8).contains v[k])) ∧ w' = w) := fun w => among_any v[k] _ w (by decide)
   obtain ⟨c, hc⟩ : ∃ c, v[k] = c := ⟨_, rfl⟩
   rw [hc] at hsn hma
   generalize escF v.size 0 (v.data.toList.take k) = X at *
   have hc256 : c.toNat < 256 := c.toNat_lt
   have hap : Hid (∀ vs : List UInt8, 0 < vs.length → vs.length ≤ 3 → ec v.size k c = vs → ∃ g cap w', (Builtin.append_ #[87, 87] 87 #[.slice ba bn bc, .slice (some ⟨wr.heap.size, 0, none⟩) vs.length vs.length]).run Tryz.prog (wr.alloc (.cells (bv vs).toArray 5)) = .ok (.slice (some ⟨g, 0, none⟩) (X.length + vs.length) cap) w' ∧ Hid (Own w' w.heap.size (.slice (some ⟨g, 0, none⟩) (X.length + vs.length) cap) (escF v.size 0 (v.data.toList.take (k + 1))) ∧ Below w.heap.size w w')) := fun vs h0 h3 he => by
    obtain ⟨g, cap, w', h1, h2, h4⟩ := append_bytes wr w.heap.size (.slice ba bn bc) X vs hR.out.1 hR.out.2.size (by have := hlen.out; omega) h0
    exact ⟨g, cap, w', h1, by rw [hsn.out, he]; exact h2, hR.out.2.trans h4⟩
   clear hR hlen hsn hL
   obtain ⟨e0, he0⟩ : ∃ e, ((k : Int) == 0) = e := ⟨_, rfl⟩
   obtain ⟨e1, he1⟩ : ∃ e, ((k : Int) == (v.size : Int) - 1) = e := ⟨_, rfl⟩
   by_cases h0 : c = 0
   ·subst h0
    have he : ec v.size k 0 = [92, 48, 48] := by unfold ec; rw [if_pos rfl]
    have hz : ((0 : UInt8).toNat : Int) = 0 := rfl
    rw [hz] at *
    obtain ⟨g, cap, w', h1, h2⟩ := hap.out _ (by decide) (by decide) he
    have h1' : (Builtin.append_ #[87, 87] 87 #[.slice ba bn bc, .slice (some ⟨wr.heap.size, 0, none⟩) 3 3]).run Tryz.prog (wr.alloc (.cells #[.int .u8 92, .int .u8 48, .int .u8 48] 5)) = .ok (.slice (some ⟨g, 0, none⟩) (X.length + 3) cap) w' := h1
    clear h1 hap hma he hz
    cases e0 <;> cases e1
    ·go_wp2_with (at_builtin; refine Lib.wpList_append_run _ rfl _ _ _ _ rfl _ _ rfl rfl _ _ h1' ?_)
     go_roundw
     case rel => exact ⟨some ⟨g, 0, none⟩, _, cap, k + 1, rfl, hlt, by go_num, h2⟩
     case measure => simp [intOf]; omega
    ·go_wp2_with (at_builtin; refine Lib.wpList_append_run _ rfl _ _ _ _ rfl _ _ rfl rfl _ _ h1' ?_)
     go_roundw
     case rel => exact ⟨some ⟨g, 0, none⟩, _, cap, k + 1, rfl, hlt, by go_num, h2⟩
     case measure => simp [intOf]; omega
    ·go_wp2_with (at_builtin; refine Lib.wpList_append_run _ rfl _ _ _ _ rfl _ _ rfl rfl _ _ h1' ?_)
     go_roundw
     case rel => exact ⟨some ⟨g, 0, none⟩, _, cap, k + 1, rfl, hlt, by go_num, h2⟩
     case measure => simp [intOf]; omega
    ·go_wp2_with (at_builtin; refine Lib.wpList_append_run _ rfl _ _ _ _ rfl _ _ rfl rfl _ _ h1' ?_)
     go_roundw
     case rel => exact ⟨some ⟨g, 0, none⟩, _, cap, k + 1, rfl, hlt, by go_num, h2⟩
     case measure => simp [intOf]; omega
   ·have hne : ¬ ((c.toNat : Int) = 0) := fun e => h0 (UInt8.toNat_inj.1 (by simpa using e))
    have hne' : ((c.toNat : Int) == 0) = false := by simpa using hne
    obtain ⟨r, hr⟩ : ∃ r, ([92, 34, 43, 44, 59, 60, 62] : List UInt8).contains c = r := ⟨_, rfl⟩
    have hE : Hid (mst v.size k c = ((((((k : Int) == 0) && (((c.toNat : Int) == 32) || ((c.toNat : Int) == 35))) || (((k : Int) == (v.size : Int) - 1) && ((c.toNat : Int) == 32)))) || r)) := mst_edge_int _ _ _ _ hr
    rw [hr] at hma
    clear hr
    obtain ⟨q2, hq2⟩ : ∃ e, ((c.toNat : Int) == 32) = e := ⟨_, rfl⟩
    obtain ⟨q5, hq5⟩ : ∃ e, ((c.toNat : Int) == 35) = e := ⟨_, rfl⟩
    rw [he0, he1, hq2, hq5] at hE
    have hap2 : Hid (mst v.size k c = true → ∃ g cap w', (Builtin.append_ #[87, 87] 87 #[.slice ba bn bc, .slice (some ⟨wr.heap.size, 0, none⟩) 2 2]).run Tryz.prog (wr.alloc (.cells #[.int .u8 92, .int .u8 (c.toNat : Int)] 5)) = .ok (.slice (some ⟨g, 0, none⟩) (X.length + 2) cap) w' ∧ Hid (Own w' w.heap.size (.slice (some ⟨g, 0, none⟩) (X.length + 2) cap) (escF v.size 0 (v.data.toList.take (k + 1))) ∧ Below w.heap.size w w')) := fun hq => hap.out [92, c] (by simp) (by simp) (by unfold ec; rw [if_neg h0, if_pos hq])
    have hap1 : Hid (mst v.size k c = false → ∃ g cap w', (Builtin.append_ #[87, 87] 87 #[.slice ba bn bc, .slice (some ⟨wr.heap.size, 0, none⟩) 1 1]).run Tryz.prog (wr.alloc (.cells #[.int .u8 (c.toNat : Int)] 5)) = .ok (.slice (some ⟨g, 0, none⟩) (X.length + 1) cap) w' ∧ Hid (Own w' w.heap.size (.slice (some ⟨g, 0, none⟩) (X.length + 1) cap) (escF v.size 0 (v.data.toList.take (k + 1))) ∧ Below w.heap.size w w')) := fun hq => hap.out [c] (by simp) (by simp) (by unfold ec; rw [if_neg h0, if_neg (by rw [hq]; decide)])
    clear hap
    cases e0 with
    | true =>
     cases q2 with
     | true =>
      obtain ⟨g, cap, w', h1, h2⟩ := hap2.out (hE.out.trans (by simp))
      clear hap1 hap2 hE hma
      go_wp2_with (at_builtin; refine Lib.wpList_append_run _ rfl _ _ _ _ rfl _ _ rfl rfl _ _ h1 ?_)
      go_roundw
      case rel => exact ⟨some ⟨g, 0, none⟩, _, cap, k + 1, rfl, hlt, by go_num, h2⟩
      case measure => simp [intOf]; omega
     | false =>
      cases q5 with
      | true =>
       obtain ⟨g, cap, w', h1, h2⟩ := hap2.out (hE.out.trans (by simp))
       clear hap1 hap2 hE hma
       go_wp2_with (at_builtin; refine Lib.wpList_append_run _ rfl _ _ _ _ rfl _ _ rfl rfl _ _ h1 ?_)
       go_roundw
       case rel => exact ⟨some ⟨g, 0, none⟩, _, cap, k + 1, rfl, hlt, by go_num, h2⟩
       case measure => simp [intOf]; omega
      | false =>
       cases e1 with
       | true =>
        cases r with
        | true =>
         obtain ⟨g, cap, w', h1, h2⟩ := hap2.out (hE.out.trans (by simp))
         clear hap1 hap2 hE
         go_wp2_with (first | (go_at_call 73; refine (hma.out _).mono ?_; rintro e w2 ⟨rfl, rfl⟩) | (at_builtin; refine Lib.wpList_append_run _ rfl _ _ _ _ rfl _ _ rfl rfl _ _ h1 ?_))
         go_roundw
         case rel => exact ⟨some ⟨g, 0, none⟩, _, cap, k + 1, rfl, hlt, by go_num, h2⟩
         case measure => simp [intOf]; omega
        | false =>
         obtain ⟨g, cap, w', h1, h2⟩ := hap1.out (hE.out.trans (by simp))
         clear hap1 hap2 hE
         go_wp2_with (first | (go_at_call 73; refine (hma.out _).mono ?_; rintro e w2 ⟨rfl, rfl⟩) | (at_builtin; refine Lib.wpList_append_run _ rfl _ _ _ _ rfl _ _ rfl rfl _ _ h1 ?_))
         go_roundw
         case rel => exact ⟨some ⟨g, 0, none⟩, _, cap, k + 1, rfl, hlt, by go_num, h2⟩
         case measure => simp [intOf]; omega
       | false =>
        cases r with
        | true =>
         obtain ⟨g, cap, w', h1, h2⟩ := hap2.out (hE.out.trans (by simp))
         clear hap1 hap2 hE
         go_wp2_with (first | (go_at_call 73; refine (hma.out _).mono ?_; rintro e w2 ⟨rfl, rfl⟩) | (at_builtin; refine Lib.wpList_append_run _ rfl _ _ _ _ rfl _ _ rfl rfl _ _ h1 ?_))
         go_roundw
         case rel => exact ⟨some ⟨g, 0, none⟩, _, cap, k + 1, rfl, hlt, by go_num, h2⟩
         case measure => simp [intOf]; omega
        | false =>
         obtain ⟨g, cap, w', h1, h2⟩ := hap1.out (hE.out.trans (by simp))
         clear hap1 hap2 hE
         go_wp2_with (first | (go_at_call 73; refine (hma.out _).mono ?_; rintro e w2 ⟨rfl, rfl⟩) | (at_builtin; refine Lib.wpList_append_run _ rfl _ _ _ _ rfl _ _ rfl rfl _ _ h1 ?_))
         go_roundw
         case rel => exact ⟨some ⟨g, 0, none⟩, _, cap, k + 1, rfl, hlt, by go_num, h2⟩
         case measure => simp [intOf]; omega
    | false =>
     cases e1 with
     | true =>
      cases q2 with
      | true =>
       obtain ⟨g, cap, w', h1, h2⟩ := hap2.out (hE.out.trans (by simp))
       clear hap1 hap2 hE hma
       go_wp2_with (at_builtin; refine Lib.wpList_append_run _ rfl _ _ _ _ rfl _ _ rfl rfl _ _ h1 ?_)
       go_roundw
       case rel => exact ⟨some ⟨g, 0, none⟩, _, cap, k + 1, rfl, hlt, by go_num, h2⟩
       case measure => simp [intOf]; omega
      | false =>
       cases r with
       | true =>
        obtain ⟨g, cap, w', h1, h2⟩ := hap2.out (hE.out.trans (by simp))
        clear hap1 hap2 hE
        go_wp2_with (first | (go_at_call 73; refine (hma.out _).mono ?_; rintro e w2 ⟨rfl, rfl⟩) | (at_builtin; refine Lib.wpList_append_run _ rfl _ _ _ _ rfl _ _ rfl rfl _ _ h1 ?_))
        go_roundw
        case rel => exact ⟨some ⟨g, 0, none⟩, _, cap, k + 1, rfl, hlt, by go_num, h2⟩
        case measure => simp [intOf]; omega
       | false =>
        obtain ⟨g, cap, w', h1, h2⟩ := hap1.out (hE.out.trans (by simp))
        clear hap1 hap2 hE
        go_wp2_with (first | (go_at_call 73; refine (hma.out _).mono ?_; rintro e w2 ⟨rfl, rfl⟩) | (at_builtin; refine Lib.wpList_append_run _ rfl _ _ _ _ rfl _ _ rfl rfl _ _ h1 ?_))
        go_roundw
        case rel => exact ⟨some ⟨g, 0, none⟩, _, cap, k + 1, rfl, hlt, by go_num, h2⟩
        case measure => simp [intOf]; omega
     | false =>
      cases r with
      | true =>
       obtain ⟨g, cap, w', h1, h2⟩ := hap2.out (hE.out.trans (by simp))
       clear hap1 hap2 hE
       go_wp2_with (first | (go_at_call 73; refine (hma.out _).mono ?_; rintro e w2 ⟨rfl, rfl⟩) | (at_builtin; refine Lib.wpList_append_run _ rfl _ _ _ _ rfl _ _ rfl rfl _ _ h1 ?_))
       go_roundw
       case rel => exact ⟨some ⟨g, 0, none⟩, _, cap, k + 1, rfl, hlt, by go_num, h2⟩
       case measure => simp [intOf]; omega
      | false =>
       obtain ⟨g, cap, w', h1, h2⟩ := hap1.out (hE.out.trans (by simp))
       clear hap1 hap2 hE
       go_wp2_with (first | (go_at_call 73; refine (hma.out _).mono ?_; rintro e w2 ⟨rfl, rfl⟩) | (at_builtin; refine Lib.wpList_append_run _ rfl _ _ _ _ rfl _ _ rfl rfl _ _ h1 ?_))
       go_roundw
       case rel => exact ⟨some ⟨g, 0, none⟩, _, cap, k + 1, rfl, hlt, by go_num, h2⟩
       case measure => simp [intOf]; omega
  ·have hke : k = v.size := by omega
   subst hke
   have HB : Hid (Below w.heap.size w wr) := hR.out.2
   have hO : Own wr w.heap.size (.slice ba bn bc) (escV v.data.toList) := by
    have := hR.out.1
    rw [List.take_of_length_le (by rw [hL.out]; exact Nat.le_refl _)] at this
    unfold escV
    rw [hL.out]
    exact this
   have hcv := own_conv hO
   clear hR hO hL
   have i1 : ¬ (v.size : Int) < (v.size : Int) := by omega
   go_wp2_with fail
   go_ret
   exact ⟨rfl, HB.out⟩
end Ke
end Go.Proofs.YtkknenmpdimdbaaGreatDoor

namespace Go.Proofs.YtkknenmpdimdbaaGreatDoor
open Go.RowKit Go.Shelf Go.Sort
set_option linter.unusedVariables false
theorem sv_enc (l : List (List UInt8)) : sv l = l.map encStr := rfl
end Go.Proofs.YtkknenmpdimdbaaGreatDoor

namespace Go.Proofs.YtkknenmpdimdbaaGreatDoor
open Go.RowKit
set_option linter.unusedVariables false
end Go.Proofs.YtkknenmpdimdbaaGreatDoor

namespace Go.Proofs.YtkknenmpdimdbaaGreatDoor
open Go.RowKit
set_option linter.unusedVariables false
def nmN (n : Nat) : List UInt8 := if h : n < 62 then (rowL ⟨n, h⟩).1.data.toList else []
def upN (n : Nat) : Nat := (SUP.getD n 0).toNat
def chn : Nat → Nat → List (List UInt8)
 | 0, _ => []
 | k + 1, n => if n = 0 then [] else nmN n :: chn k (upN n)
def noN (f : ByteArray) : Nat := match rowOf f with
 | none => 0
 | some i => i.1
def lin (f : ByteArray) : List (List UInt8) := (canN f).data.toList :: chn 3 (upN (noN f))
end Go.Proofs.YtkknenmpdimdbaaGreatDoor

namespace Go.Proofs.YtkknenmpdimdbaaGreatDoor
open Go.RowKit
def dscE (s : ByteArray) : Nat → Nat → List (List UInt8) → List (List UInt8) × Nat × Bool
 | 0, e, _ => ([], e, false)
 | n + 1, e, acc =>
  if e < s.size then
   if (s.data.toList.getD e 0).toNat = 59 then
    if runE isK s.data.toList (e + 1) = e + 1 then ([], e + 1, false)
    else dscE s n (runE isK s.data.toList (e + 1)) (acc ++ [(s.extract (e + 1) (runE isK s.data.toList (e + 1))).data.toList])
   else ([], e, false)
  else (acc, e, true)
end Go.Proofs.YtkknenmpdimdbaaGreatDoor

namespace Go.Proofs.YtkknenmpdimdbaaGreatDoor
open Go.RowKit
open TextMath (fold lo)
set_option linter.unusedVariables false
def Typ (f : ByteArray) : Prop := (typE f.data.toList).1 = f.size ∧ (typE f.data.toList).2 = true
theorem fold_size (s : ByteArray) : (S (fold s.data.toList)).size = s.size := by
 rw [S_size]
 unfold fold
 rw [List.length_map, size_l]
def synN (f : ByteArray) : Int := match rowOf f with
 | none => 0
 | some i => SYN.getD i.1 0
end Go.Proofs.YtkknenmpdimdbaaGreatDoor

namespace Go.Proofs.YtkknenmpdimdbaaGreatDoor
open Go.RowKit
open TextMath (fold lo)
set_option linter.unusedVariables false
end Go.Proofs.YtkknenmpdimdbaaGreatDoor

namespace Go.Proofs.YtkknenmpdimdbaaGreatDoor
open Go.RowKit
open TextMath (fold lo)
set_option linter.unusedVariables false
def typD (f : ByteArray) : ByteArray := f.extract 0 (typE f.data.toList).1
def desc (f : ByteArray) : List (List UInt8) × Nat × Bool := if (typE f.data.toList).2 = true then dscE f (f.size + 1) (typE f.data.toList).1 [] else ([], (typE f.data.toList).1, false)
end Go.Proofs.YtkknenmpdimdbaaGreatDoor

namespace Go.Proofs.YtkknenmpdimdbaaGreatDoor
open Go.RowKit
open TextMath (fold lo)
set_option linter.unusedVariables false
end Go.Proofs.YtkknenmpdimdbaaGreatDoor

namespace Go.Proofs.YtkknenmpdimdbaaGreatDoor
open TextMath (fold lo)
set_option linter.unusedVariables false
def semis (zs : List (List UInt8)) : List UInt8 := zs.flatMap fun z => 59 :: z
theorem semis_cons (z : List UInt8) (zs : List (List UInt8)) : semis (z :: zs) = 59 :: (z ++ semis zs) := by simp [semis]
theorem semis_len (zs : List (List UInt8)) : zs.length ≤ (semis zs).length := by
 induction zs with
 | nil => simp
 | cons z zs ih => rw [semis_cons]; simp; omega
theorem runE_semi (p : UInt8 → Bool) (hp : p 59 = false) (l r : List UInt8) (e : Nat) (he : e ≤ l.length) : runE p (l ++ 59 :: r) e = runE p l e := by
 unfold runE
 rw [List.drop_append_of_le_length he]
 congr 1
 generalize l.drop e = k
 induction k with
 | nil => simp [hp]
 | cons a k ih =>
  rw [List.cons_append, List.takeWhile_cons, List.takeWhile_cons]
  split
  ·simp [ih]
  ·rfl
theorem getD_semi (l r : List UInt8) (e : Nat) (he : e < l.length) : (l ++ 59 :: r).getD e 0 = l.getD e 0 := by
 simp [List.getD, List.getElem?_append_left he]
theorem getD_at (l r : List UInt8) : (l ++ 59 :: r).getD l.length 0 = 59 := by simp [List.getD]
theorem getD_over (l : List UInt8) : l.getD l.length 0 = 0 := by simp [List.getD]
theorem numE_semi (l r : List UInt8) (e : Nat) (he : e ≤ l.length) : numE (l ++ 59 :: r) e = numE l e := by
 unfold numE
 rw [runE_semi isD (by decide) l r e he]
 by_cases h : e < l.length
 ·rw [getD_semi l r e h]
  have : e < (l ++ 59 :: r).length := by simp; omega
  simp only [h, this, and_true]
 ·have : e = l.length := by omega
  subst this
  rw [getD_at, getD_over]
  simp
theorem idE_semi (l r : List UInt8) : ∀ n n' m e, e ≤ l.length → l.length - e < n → l.length - e < n' → idE (l ++ 59 :: r) n' m e = idE l n m e
 | 0, _, _, _, _, h, _ => by omega
 | _ + 1, 0, _, _, _, _, h => by omega
 | n + 1, n' + 1, m, e, he, h1, h2 => by
  unfold idE
  rw [numE_semi l r e he]
  have hle := numE_le l e he
  by_cases h3 : numE l e = e
  ·rw [if_pos h3, if_pos h3]
  ·rw [if_neg h3, if_neg h3]
   by_cases h4 : numE l e = l.length
   ·rw [if_pos (Or.inr (by rw [h4, getD_at]; decide)), if_pos (Or.inl h4)]
   ·have h5 : numE l e < l.length := by omega
    rw [getD_semi l r _ h5]
    have h6 : ¬ numE l e = (l ++ 59 :: r).length := by simp; omega
    by_cases h7 : (l.getD (numE l e) 0).toNat = 46
    ·rw [if_neg (by simp only [h6, h7]; simp), if_neg (by simp only [h4, h7]; simp)]
     exact idE_semi l r n n' (m + 1) (numE l e + 1) (by omega) (by omega) (by omega)
    ·rw [if_pos (Or.inr h7), if_pos (Or.inr h7)]
theorem typE_semi (l r : List UInt8) : typE (l ++ 59 :: r) = typE l := by
 unfold typE
 by_cases hl : l = []
 ·subst hl
  have h1 : ¬ (¬ ([] ++ 59 :: r : List UInt8) = [] ∧ isL (([] ++ 59 :: r).getD 0 0) = true) := by
   intro h
   have : isL 59 = false := by decide
   have h2 := h.2
   simp [List.getD, this] at h2
  rw [if_neg h1, if_neg (by simp)]
  exact idE_semi [] r _ _ 1 0 (by simp) (by simp) (by simp)
 ·have hz : 0 < l.length := List.length_pos_iff.2 hl
  rw [getD_semi l r 0 hz]
  by_cases h : isL (l.getD 0 0) = true
  ·rw [if_pos ⟨by simp, h⟩, if_pos ⟨hl, h⟩, runE_semi isK (by decide) l r 1 (by omega)]
  ·rw [if_neg (fun q => h q.2), if_neg (fun q => h q.2)]
   exact idE_semi l r _ _ 1 0 (by omega) (by omega) (by simp; omega)
theorem typE_semis (l : List UInt8) (zs : List (List UInt8)) : typE (l ++ semis zs) = typE l := by
 cases zs with
 | nil => simp [semis]
 | cons z zs => rw [semis_cons]; exact typE_semi _ _
theorem while_semis (z : List UInt8) (zs : List (List UInt8)) (hz : ∀ b ∈ z, isK b = true) : (z ++ semis zs).takeWhile isK = z := by
 induction z with
 | nil =>
  cases zs with
  | nil => simp [semis]
  | cons y ys =>
   have : isK 59 = false := by decide
   rw [semis_cons]
   simp [this]
 | cons a z ih =>
  rw [List.cons_append, List.takeWhile_cons, if_pos (hz a (by simp)), ih (fun b hb => hz b (by simp [hb]))]
theorem dscE_run (s : ByteArray) : ∀ (zs : List (List UInt8)) (n e : Nat) (acc : List (List UInt8)), s.data.toList.drop e = semis zs → e ≤ s.size → (∀ z ∈ zs, z ≠ [] ∧ ∀ b ∈ z, isK b = true) → zs.length < n → dscE s n e acc = (acc ++ zs, s.size, true)
 | _, 0, _, _, _, _, _, h => by omega
 | [], n + 1, e, acc, hd, he, _, _ => by
  have h1 : s.data.toList.length ≤ e := List.drop_eq_nil_iff.1 hd
  rw [size_l] at h1
  unfold dscE
  rw [if_neg (by omega), List.append_nil, show e = s.size by omega]
 | z :: zs, n + 1, e, acc, hd, he, hz, hn => by
  rw [semis_cons] at hd
  have hlt : e < s.data.toList.length := by
   rcases Nat.lt_or_ge e s.data.toList.length with h | h
   ·exact h
   ·rw [List.drop_of_length_le h] at hd; cases hd
  have hlt' : e < s.size := by rw [← size_l]; exact hlt
  rw [List.drop_eq_getElem_cons hlt] at hd
  injection hd with h59 hd
  have hg : (s.data.toList.getD e 0).toNat = 59 := by
   rw [List.getD, List.getElem?_eq_getElem hlt, Option.getD_some, h59]
   decide
  have hk := hz z (by simp)
  have hrun : runE isK s.data.toList (e + 1) = e + 1 + z.length := by
   unfold runE
   rw [hd, while_semis z zs hk.2]
  have hzl : 0 < z.length := List.length_pos_iff.2 hk.1
  have hlen : e + 1 + z.length ≤ s.size := by
   have := congrArg List.length hd
   rw [List.length_drop, size_l] at this
   simp at this
   omega
  unfold dscE
  rw [if_pos hlt', if_pos hg, hrun, if_neg (by omega)]
  have hex : (s.extract (e + 1) (e + 1 + z.length)).data.toList = z := by
   rw [ByteArray.data_extract, Array.toList_extract, List.extract_eq_take_drop, hd]
   rw [show e + 1 + z.length - (e + 1) = z.length by omega]
   simp
  rw [hex]
  have ih := dscE_run s zs n (e + 1 + z.length) (acc ++ [z]) (by rw [← List.drop_drop, hd]; simp) hlen (fun y hy => hz y (by simp [hy])) (by simp at hn; omega)
  rw [ih]
  simp
theorem desc_semis (l : List UInt8) (zs : List (List UInt8)) (hT : typE l = (l.length, true)) (hz : ∀ z ∈ zs, z ≠ [] ∧ ∀ b ∈ z, isK b = true) :
  desc (S (l ++ semis zs)) = (zs, (S (l ++ semis zs)).size, true) ∧ typD (S (l ++ semis zs)) = S l := by
 have e1 : typE (S (l ++ semis zs)).data.toList = (l.length, true) := by rw [S_l, typE_semis, hT]
 constructor
 ·unfold desc
  rw [e1, if_pos rfl]
  have h := dscE_run (S (l ++ semis zs)) zs ((S (l ++ semis zs)).size + 1) l.length [] (by rw [S_l]; simp) (by rw [S_size]; simp) hz (by
   rw [S_size]
   have := semis_len zs
   simp
   omega)
  rw [h]
  simp
 ·unfold typD
  rw [e1]
  refine (S_of _).symm.trans ?_
  congr 1
  rw [ByteArray.data_extract, Array.toList_extract, List.extract_eq_take_drop, S_l]
  simp
end Go.Proofs.YtkknenmpdimdbaaGreatDoor

namespace Go.Proofs.YtkknenmpdimdbaaGreatDoor
open Go.RowKit
open TextMath (fold lo)
set_option linter.unusedVariables false
theorem rowOf_hit (f : ByteArray) (i : Fin 62) (h : hit f i = true) : rowOf f = some i := by
 unfold rowOf
 cases hq : (List.finRange 62).find? (hit f) with
 | none =>
  have := List.find?_eq_none.1 hq i (List.mem_finRange i)
  exact absurd h this
 | some j =>
  have hj := List.find?_some hq
  rw [hit_unique f j i hj h]
structure UpOk (f : ByteArray) (up : List (List UInt8)) : Prop where
 len : up.length ≤ 3
 pos : 0 < up.length
 head : up.getD 0 [] = (canN f).data.toList
 each : ∀ i, i < up.length → S (fold (up.getD i [])) = S (up.getD i []) ∧ Typ (S (up.getD i [])) ∧ canN (S (up.getD i [])) = S (up.getD i []) ∧ lin (S (up.getD i [])) = up.drop i ∧ synN (S (up.getD i [])) = synN f
 ord : ∀ i j, i < up.length → j < up.length → decide (up.getD j [] ∈ up.drop i) = decide (i ≤ j)
 size : ∀ i, i < up.length → (up.getD i []).length ≤ 140737488355328
end Go.Proofs.YtkknenmpdimdbaaGreatDoor

namespace Go.Proofs.YtkknenmpdimdbaaGreatDoor
open TextMath (fold lo)
set_option linter.unusedVariables false
theorem mem_while (p : UInt8 → Bool) : ∀ (l : List UInt8) (b : UInt8), b ∈ l.takeWhile p → p b = true
 | [], b, h => by simp at h
 | a :: l, b, h => by
  rw [List.takeWhile_cons] at h
  by_cases ha : p a = true
  ·rw [if_pos ha] at h
   rcases List.mem_cons.1 h with rfl | h
   ·exact ha
   ·exact mem_while p l b h
  ·rw [if_neg ha] at h; simp at h
theorem take_while (p : UInt8 → Bool) (l : List UInt8) : l.take (l.takeWhile p).length = l.takeWhile p := by
 induction l with
 | nil => simp
 | cons a l ih =>
  rw [List.takeWhile_cons]
  split
  ·simp [ih]
  ·simp
end Go.Proofs.YtkknenmpdimdbaaGreatDoor

namespace Go.Proofs.YtkknenmpdimdbaaGreatDoor
open TextMath (fold lo)
set_option linter.unusedVariables false
end Go.Proofs.YtkknenmpdimdbaaGreatDoor
