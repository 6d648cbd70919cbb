import Derived.Test.YtkknenmpdimdbaaGreatDoorFW8
import Derived.Test.YtkknenmpdimdbaaGreatDoorBytes
import Derived.Test.YtkknenmpdimdbaaGreatDoorAtNames
import Derived.Test.YtkknenmpdimdbaaGreatDoorFW13
namespace Go.Proofs.YtkknenmpdimdbaaGreatDoor
open Go.RowKit
open TextMath (fold lo)
set_option maxHeartbeats 1000000 in
theorem rFold_any (s : ByteArray) (w : World) (hm : s.size ≤ 140737488355328) :
  Calls Tryz.prog 77 #[.string s] w fun e w' => e = .returned (.string (S (fold s.data.toList))) ∧ Below w.heap.size w w' := by
 have hL : Hid (s.data.toList.length = s.size) := size_l s
 obtain ⟨i0, hi, hz0, hz1, hz2⟩ := info_parts info_u8
 go_enter Tryz.func77, Tryz.ntmps77
 go_wp2
 go_loopw [3, 4] (fun out i wr => ∃ k : Nat, k ≤ s.size ∧ i = .int .i64 k ∧ Below w.heap.size w wr ∧ wr.ownsRow w.heap.size 5 1 out k (bv (fold (s.data.toList.take k)))) (fun _ i _ => s.size - (intOf i).toNat)
 case atStart => exact ⟨0, Nat.zero_le _, rfl, Below.refl _ _, World.ownsRow_nil _ _ _ _⟩
 case round =>
  obtain ⟨k, hk, rfl, hb, hown⟩ := hrel
  have hgs' := hb.size
  by_cases hlt : k < s.size
  ·have hkl : k < s.data.toList.length := by rw [hL.out]; exact hlt
   have hsn : Hid (bv (fold (s.data.toList.take (k + 1))) = bv (fold (s.data.toList.take k)) ++ [.int .u8 ((lo s[k]).toNat : Int)]) := by unfold Hid; rw [fold_snoc _ _ hkl, bv_app]; rfl
   have hc256 : s[k].toNat < 256 := s[k].toNat_lt
   by_cases h1 : (65 : Int) ≤ s[k].toNat ∧ (s[k].toNat : Int) ≤ 90
   ·have hlo : Hid (((lo s[k]).toNat : Int) = s[k].toNat + 32) := lo_big _ h1.1 h1.2
    obtain ⟨h1, h2⟩ := h1
    go_wp2_with (at_builtin; refine wpList_append_own _ rfl _ _ 87 rfl w.heap.size 5 i0 (.int .u8 0) 1 1 Tryz.underlying87 hi hz0 hz1 hz2 rfl (by decide) _ _ _ rfl (hown.alloc _) ⟨wr.heap.size, 0, none⟩ 1 1 [.int .u8 ((s[k].toNat : Int) + 32)] rfl rfl ?_ ?_ ?_ ?_ ?_ ?_; exact cell_one_new _ _ _; (intro u hu; simp at hu; subst hu; rfl); (unfold maxLen; omega); omega; (simp; omega); intro v1 w1 hown1 hgrow1 _)
    go_roundw
    case rel =>
     refine ⟨k + 1, by omega, by go_num, ?_, ?_⟩
     ·exact (hb.alloc hgs' _).grown hgrow1 (by simp; omega) (fun j h => (hown.lt j h).1)
     ·rw [hsn.out, hlo.out]; exact hown1
    case measure => simp [intOf]; omega
   ·have hlo : Hid (lo s[k] = s[k]) := lo_small _ h1
    by_cases h2 : (65 : Int) ≤ s[k].toNat
    ·have h3 : ¬ (s[k].toNat : Int) ≤ 90 := fun h => h1 ⟨h2, h⟩
     clear h1
     go_wp2_with (at_builtin; refine wpList_append_own _ rfl _ _ 87 rfl w.heap.size 5 i0 (.int .u8 0) 1 1 Tryz.underlying87 hi hz0 hz1 hz2 rfl (by decide) _ _ _ rfl (hown.alloc _) ⟨wr.heap.size, 0, none⟩ 1 1 [.int .u8 (s[k].toNat : Int)] rfl rfl ?_ ?_ ?_ ?_ ?_ ?_; exact cell_one_new _ _ _; (intro u hu; simp at hu; subst hu; rfl); (unfold maxLen; omega); omega; (simp; omega); intro v1 w1 hown1 hgrow1 _)
     go_roundw
     case rel =>
      refine ⟨k + 1, by omega, by go_num, ?_, ?_⟩
      ·exact (hb.alloc hgs' _).grown hgrow1 (by simp; omega) (fun j h => (hown.lt j h).1)
      ·rw [hsn.out, hlo.out]; exact hown1
     case measure => simp [intOf]; omega
    ·clear h1
     go_wp2_with (at_builtin; refine wpList_append_own _ rfl _ _ 87 rfl w.heap.size 5 i0 (.int .u8 0) 1 1 Tryz.underlying87 hi hz0 hz1 hz2 rfl (by decide) _ _ _ rfl (hown.alloc _) ⟨wr.heap.size, 0, none⟩ 1 1 [.int .u8 (s[k].toNat : Int)] rfl rfl ?_ ?_ ?_ ?_ ?_ ?_; exact cell_one_new _ _ _; (intro u hu; simp at hu; subst hu; rfl); (unfold maxLen; omega); omega; (simp; omega); intro v1 w1 hown1 hgrow1 _)
     go_roundw
     case rel =>
      refine ⟨k + 1, by omega, by go_num, ?_, ?_⟩
      ·exact (hb.alloc hgs' _).grown hgrow1 (by simp; omega) (fun j h => (hown.lt j h).1)
      ·rw [hsn.out, hlo.out]; exact hown1
     case measure => simp [intOf]; omega
  ·have hback := own_back_any (P := Tryz.prog) wr w.heap.size 87 9 5 _ _ _ Tryz.underlying87 Tryz.underlying5 Tryz.underlying9 hown
   rw [List.take_of_length_le (by rw [hL.out]; omega)] at hback
   clear hown
   go_wp2
   go_ret
   exact ⟨rfl, hb⟩
end Go.Proofs.YtkknenmpdimdbaaGreatDoor

namespace Go.Proofs.YtkknenmpdimdbaaGreatDoor
open Go.RowKit
open TextMath (fold lo)
theorem names_ne : (List.finRange 62).all (fun i => !(rowL i).1.toList.isEmpty && !(rowL i).2.2.toList.isEmpty) = true := by kernel_rfl
theorem name_ne (i : Fin 62) : ¬ (rowL i).1.toList = [] ∧ ¬ (rowL i).2.2.toList = [] := by
 have h := List.all_eq_true.1 names_ne i (List.mem_finRange i)
 simpa using h
theorem rowOf_none (f : ByteArray) (h : ∀ i, ¬ hit f i = true) : rowOf f = none := List.find?_eq_none.2 (fun i _ => h i)
def rowN (f : ByteArray) : Int := match rowOf f with
 | none => -1
 | some i => (i.1 : Int)
theorem rowN_hit (f : ByteArray) (i : Fin 62) (h : hit f i = true) : rowN f = (i.1 : Int) := by unfold rowN; rw [rowOf_hit f i h]
theorem rowN_none (f : ByteArray) (h : ∀ i, ¬ hit f i = true) : rowN f = -1 := by unfold rowN; rw [rowOf_none f h]
def Nams (W : World) (b : Nat) : Prop := W.heap[b]? = some (.cells namC 171 (0, 0))
theorem Nams.cells {W : World} {b : Nat} (h : Nams W b) (i : Fin 62) : W.cell? ⟨b, i.1 * 3, none⟩ = some (.string (rowL i).1) ∧ W.cell? ⟨b, i.1 * 3 + 1, none⟩ = some (.string (rowL i).2.1) ∧ W.cell? ⟨b, i.1 * 3 + 2, none⟩ = some (.string (rowL i).2.2) := by
 have hl : i.1 < labs.length := by rw [labs_len]; exact i.2
 have key : ∀ r, r < 3 → W.cell? ⟨b, i.1 * 3 + r, none⟩ = (lbC (rowL i))[r]? := fun r hr => by
  rw [cell_of_row W b _ _ _ _ h]
  unfold namC
  rw [List.getElem?_toArray, flat_at labs i.1 r hl hr]
  rfl
 exact ⟨key 0 (by omega), key 1 (by omega), key 2 (by omega)⟩
theorem namC_size : namC.size = 186 := by kernel_rfl
theorem namC_one : ∀ v ∈ namC.toList, v.oneCell' = true := by
 have h : namC.toList.all (·.oneCell') = true := by kernel_rfl
 exact fun v hv => List.all_eq_true.1 h v hv
theorem st_nams (W : World) (cs : Array Value) (hz : cs.size = 186) (h1 : ∀ v ∈ cs.toList, v.oneCell' = true) : (storeCells ⟨W.heap.size, 0, none⟩ cs.toList 0).run Tryz.prog (W.alloc (.cells Tryz.zeroCells171 171)) = .ok () (W.alloc (.cells cs 171)) := by
 refine run_storeCells_new W _ _ cs (by rw [hz]; kernel_rfl) (by rw [hz]; kernel_rfl) ?_
 rw [Array.all_eq_true']
 intro v hv
 exact h1 v (by simpa using hv)
theorem names_q (w : World) : Calls Tryz.prog 106 #[] w fun e w' => ∃ cs, e = .returned (.agg cs) ∧ Hid (namC = cs) ∧ cs.size = 186 ∧ (∀ v ∈ cs.toList, v.oneCell' = true) ∧ Below w.heap.size w w' := by
 refine (names_any w).mono ?_
 intro e w' h
 exact ⟨namC, h.1, rfl, namC_size, namC_one, h.2⟩
theorem beq_t {a b : ByteArray} (h : a = b) : (a.toList == b.toList) = true := by rw [h]; exact beq_self_eq_true _
theorem beq_f {a b : ByteArray} (h : ¬ a = b) : (a.toList == b.toList) = false := by
 rw [beq_eq_false_iff_ne]
 intro h'
 rw [Lib.toList_data, Lib.toList_data] at h'
 exact h (ByteArray.ext (Array.toList_inj.1 h'))
set_option maxRecDepth 100000 in
set_option maxHeartbeats 400000 in
theorem refRow_any (s : ByteArray) (w : World) (hs : s.size ≤ 140737488355328) :
  Calls Tryz.prog 105 #[.string s] w fun e w' => e = .returned (.int .i64 (rowN (S (fold s.data.toList)))) ∧ Below w.heap.size w w' := by
 obtain ⟨f, hf⟩ : ∃ f, S (fold s.data.toList) = f := ⟨_, rfl⟩
 have hF : ∀ W, Hid (Calls Tryz.prog 77 #[.string s] W fun e w' => e = .returned (.string f) ∧ Below W.heap.size W w') := fun W => by
  have h := rFold_any s W hs
  rw [hf] at h
  exact h
 rw [hf]
 clear hf
 go_enter Tryz.func105, Tryz.ntmps105
 go_wp2_with fail
 refine (hF _).out.mono ?_
 rintro e W1 ⟨rfl, hb1⟩
 have hN := names_q W1
 have hb1' : Hid (Below w.heap.size w W1) := hb1
 clear hF hb1
 go_wp2_with fail
 refine hN.mono ?_
 rintro e W2 ⟨cs, rfl, hcs, hcz, hco, hb2⟩
 have st := st_nams W2 cs hcz hco
 obtain ⟨W3, hW3⟩ : ∃ W3, W2.alloc (.cells cs 171) = W3 := ⟨_, rfl⟩
 rw [hW3] at st
 have hB3 : Hid (Below w.heap.size w W3) := by
  have h : Below W1.heap.size W1 W3 := by rw [← hW3]; exact hb2.alloc hb2.size _
  exact hb1'.out.trans (h.mono hb1'.out.size)
 have hn3 : Nams W3 W2.heap.size := by unfold Nams; rw [hcs.out, ← hW3]; exact heap_alloc_last W2 _
 clear hN hb2 hb1' hco hW3
 go_wp2_with fail
 go_loopw [5] (fun iv wr => ∃ k : Nat, k ≤ 62 ∧ iv = .int .i64 (k : Int) ∧ wr = W3 ∧ Hid (∀ j : Fin 62, j.1 < k → ¬ hit f j = true)) (fun iv _ => 62 - (intOf iv).toNat)
 case atStart => exact ⟨0, Nat.zero_le _, rfl, rfl, fun j hj => absurd hj (Nat.not_lt_zero _)⟩
 case round =>
  obtain ⟨k, hk, rfl, rfl, hno⟩ := hrel
  clear st hcz hcs
  by_cases hlt : k < 62
  ·obtain ⟨i, hi⟩ : ∃ i : Fin 62, i = ⟨k, hlt⟩ := ⟨_, rfl⟩
   have hik : Hid (i.1 = k) := by rw [hi]; rfl
   obtain ⟨c0, c1, c2⟩ := hn3.cells i
   rw [hik.out] at c0 c1 c2
   obtain ⟨ne0, ne2⟩ := name_ne i
   have hiff := hit_iff f i
   have k0 : (0 : Int) ≤ (k : Int) := Int.natCast_nonneg _
   have k1 : (k : Int) < 62 := by omega
   generalize (rowL i).1 = n0 at *
   generalize (rowL i).2.1 = n1 at *
   generalize (rowL i).2.2 = n2 at *
   have hlt' : Hid (k < 62) := hlt
   clear hi hlt hk
   by_cases e0 : f = n0
   ·have hrn : Hid (rowN f = (k : Int)) := by unfold Hid; rw [rowN_hit f i (hiff.2 ⟨by rw [e0]; exact ne0, Or.inl e0⟩), hik.out]
    have q0 := beq_t e0
    clear hiff ne0 ne2 hno e0
    go_wp2_with fail
    go_ret
    exact ⟨ret_int (by rw [hrn.out]), hB3.out⟩
   ·by_cases e1 : f = n1
    ·by_cases em : f.toList = []
     ·have e2 : ¬ f = n2 := fun h => ne2 (by rw [← h]; exact em)
      have eb : f.toList.isEmpty = true := by rw [em]; rfl
      have hnh : ¬ hit f i = true := fun h => (hiff.1 h).1 em
      have hnx : Hid (∀ j : Fin 62, j.1 < k + 1 → ¬ hit f j = true) := fun j hj => by
       by_cases hjk : j.1 < k
       ·exact hno.out j hjk
       ·have : j = i := Fin.ext (by have := hik.out; omega)
        rw [this]; exact hnh
      have q0 := beq_f e0
      have q1 := beq_t e1
      have q2 := beq_f e2
      clear hnh
      clear hiff ne0 ne2 hno e0 e1 e2 em
      go_wp2_with fail
      refine ⟨⟨k + 1, hlt'.out, by simp, trivial, hnx⟩, ?_⟩
      have := hlt'.out
      simp [intOf]
      omega
     ·have eb : f.toList.isEmpty = false := by simpa using em
      have hrn : Hid (rowN f = (k : Int)) := by unfold Hid; rw [rowN_hit f i (hiff.2 ⟨em, Or.inr (Or.inl e1)⟩), hik.out]
      have q0 := beq_f e0
      have q1 := beq_t e1
      clear hiff ne0 ne2 hno e0 e1 em
      go_wp2_with fail
      go_ret
      exact ⟨ret_int (by rw [hrn.out]), hB3.out⟩
    ·by_cases e2 : f = n2
     ·have em : ¬ f.toList = [] := by rw [e2]; exact ne2
      have hrn : Hid (rowN f = (k : Int)) := by unfold Hid; rw [rowN_hit f i (hiff.2 ⟨em, Or.inr (Or.inr e2)⟩), hik.out]
      have q0 := beq_f e0
      have q1 := beq_f e1
      have q2 := beq_t e2
      clear hiff ne0 hno ne2 em e0 e1 e2
      go_wp2_with fail
      go_ret
      exact ⟨ret_int (by rw [hrn.out]), hB3.out⟩
     ·have hnh : ¬ hit f i = true := fun h => by rcases (hiff.1 h).2 with h | h | h; exact e0 h; exact e1 h; exact e2 h
      have hnx : Hid (∀ j : Fin 62, j.1 < k + 1 → ¬ hit f j = true) := fun j hj => by
       by_cases hjk : j.1 < k
       ·exact hno.out j hjk
       ·have : j = i := Fin.ext (by have := hik.out; omega)
        rw [this]; exact hnh
      have q0 := beq_f e0
      have q1 := beq_f e1
      have q2 := beq_f e2
      clear hnh
      clear hiff ne0 ne2 hno e0 e1 e2
      go_wp2_with fail
      refine ⟨⟨k + 1, hlt'.out, by simp, trivial, hnx⟩, ?_⟩
      have := hlt'.out
      simp [intOf]
      omega
  ·have hrn : Hid (rowN f = -1) := rowN_none f (fun j => hno.out j (by have := j.2; omega))
   have hke : k = 62 := by omega
   subst hke
   clear hlt hk hno
   go_wp2_with fail
   go_ret
   exact ⟨ret_int (by rw [hrn.out]), hB3.out⟩
end Go.Proofs.YtkknenmpdimdbaaGreatDoor

namespace Go.Proofs.YtkknenmpdimdbaaGreatDoor
set_option linter.unusedVariables false
def dfa (q : Nat) (b : UInt8) : Nat :=
 match q with
 | 0 => if isL b then 1 else if b.toNat = 48 then 2 else if isD b then 3 else 9
 | 1 => if isK b then 1 else if b.toNat = 59 then 7 else 9
 | 2 => if b.toNat = 46 then 4 else 9
 | 3 => if isD b then 3 else if b.toNat = 46 then 4 else 9
 | 4 => if b.toNat = 48 then 5 else if isD b then 6 else 9
 | 5 => if b.toNat = 46 then 4 else if b.toNat = 59 then 7 else 9
 | 6 => if isD b then 6 else if b.toNat = 46 then 4 else if b.toNat = 59 then 7 else 9
 | 7 => if isK b then 8 else 9
 | 8 => if isK b then 8 else if b.toNat = 59 then 7 else 9
 | _ => 9
def drun (q : Nat) (l : List UInt8) : Nat := l.foldl dfa q
def dacc (q : Nat) : Bool := q == 1 || q == 5 || q == 6 || q == 8
def plc : Nat → List UInt8 → Nat
 | _, [] => 0
 | q, b :: l => if dfa q b = 9 then 0 else plc (dfa q b) l + 1
theorem dfa9 (b : UInt8) : dfa 9 b = 9 := rfl
theorem drun9 (l : List UInt8) : drun 9 l = 9 := by
 unfold drun
 induction l with
 | nil => rfl
 | cons a l ih => rw [List.foldl_cons, dfa9, ih]
theorem drun_cons (q : Nat) (b : UInt8) (l : List UInt8) : drun q (b :: l) = drun (dfa q b) l := rfl
theorem drun_app (q : Nat) (l k : List UInt8) : drun q (l ++ k) = drun (drun q l) k := by unfold drun; rw [List.foldl_append]
theorem plc_dead (q : Nat) (b : UInt8) (l : List UInt8) (h : dfa q b = 9) : plc q (b :: l) = 0 ∧ drun q (b :: l) = 9 := by
 constructor
 ·unfold plc; rw [if_pos h]
 ·rw [drun_cons, h, drun9]
theorem plc_live (q : Nat) (b : UInt8) (l : List UInt8) (h : dfa q b ≠ 9) : plc q (b :: l) = plc (dfa q b) l + 1 := by
 conv => lhs; unfold plc
 rw [if_neg h]
theorem plc_while (q : Nat) (p : UInt8 → Bool) (hq : q ≠ 9) (hp : ∀ b, p b = true → dfa q b = q) : ∀ l : List UInt8, plc q l = (l.takeWhile p).length + plc q (l.drop (l.takeWhile p).length) ∧ drun q l = drun q (l.drop (l.takeWhile p).length)
 | [] => ⟨rfl, rfl⟩
 | b :: l => by
  by_cases h : p b = true
  ·have ih := plc_while q p hq hp l
   rw [List.takeWhile_cons, if_pos h, List.length_cons, List.drop_succ_cons, plc_live q b l (by rw [hp b h]; exact hq), drun_cons, hp b h]
   refine ⟨?_, ih.2⟩
   rw [ih.1]
   omega
  ·rw [List.takeWhile_cons, if_neg h]
   exact ⟨by simp, by simp⟩
theorem head_while (p : UInt8 → Bool) (l : List UInt8) (b : UInt8) (k : List UInt8) (h : l.drop (l.takeWhile p).length = b :: k) : p b = false := by
 induction l with
 | nil => simp at h
 | cons a l ih =>
  by_cases ha : p a = true
  ·rw [List.takeWhile_cons, if_pos ha, List.length_cons, List.drop_succ_cons] at h
   exact ih h
  ·rw [List.takeWhile_cons, if_neg ha] at h
   simp at h
   rw [← h.1]
   simpa using ha
def Shut (q : Nat) (r : List UInt8) : Prop := dacc q = true ∧ ∀ b k, r = b :: k → dfa q b = if b.toNat = 59 then 7 else 9
theorem shut8 (r : List UInt8) : Shut 8 (r.drop (r.takeWhile isK).length) := by
 refine ⟨rfl, fun b k h => ?_⟩
 have := head_while isK r b k h
 show (if isK b then 8 else if b.toNat = 59 then 7 else 9) = _
 rw [this]
 rfl
theorem dsc_dfa (s : ByteArray) : ∀ (n e : Nat) (acc : List (List UInt8)) (q : Nat), e ≤ s.size → s.size - e < n → Shut q (s.data.toList.drop e) →
  (dscE s n e acc).2.1 = e + plc q (s.data.toList.drop e) ∧ (dscE s n e acc).2.2 = dacc (drun q (s.data.toList.drop e))
 | 0, e, acc, q, he, hn, hq => by omega
 | n + 1, e, acc, q, he, hn, hq => by
  unfold dscE
  by_cases hlt : e < s.size
  ·rw [if_pos hlt]
   have hl : e < s.data.toList.length := by rw [size_l]; exact hlt
   have hd := List.drop_eq_getElem_cons hl
   have hg : s.data.toList.getD e 0 = s.data.toList[e] := by rw [List.getD, List.getElem?_eq_getElem hl]; rfl
   have hf := hq.2 _ _ hd
   rw [hg]
   by_cases h59 : (s.data.toList[e]).toNat = 59
   ·rw [if_pos h59]
    rw [if_pos h59] at hf
    rw [hd, plc_live _ _ _ (by rw [hf]; decide), drun_cons, hf]
    have hr : runE isK s.data.toList (e + 1) = e + 1 + ((s.data.toList.drop (e + 1)).takeWhile isK).length := rfl
    rw [hr]
    cases hk : (s.data.toList.drop (e + 1)) with
    | nil => rw [if_pos (by simp)]; exact ⟨rfl, rfl⟩
    | cons c k =>
     by_cases hc : isK c = true
     ·have h8 : dfa 7 c = 8 := by show (if isK c then 8 else 9) = 8; rw [hc]; rfl
      rw [plc_live _ _ _ (by rw [h8]; decide), drun_cons, h8]
      have hw := plc_while 8 isK (by decide) (fun b hb => by show (if isK b then 8 else _) = 8; rw [hb]; rfl) k
      have hke : (k.drop (k.takeWhile isK).length) = s.data.toList.drop (e + 1 + ((c :: k).takeWhile isK).length) := by
       rw [← List.drop_drop, hk, List.takeWhile_cons, if_pos hc, List.length_cons, List.drop_succ_cons]
      have h8s := shut8 k
      rw [hke] at hw h8s
      have hlen : ((c :: k).takeWhile isK).length = (k.takeWhile isK).length + 1 := by rw [List.takeWhile_cons, if_pos hc, List.length_cons]
      have hkl : (k.takeWhile isK).length ≤ k.length := (List.takeWhile_prefix _).length_le
      have hsz : k.length + 1 = s.size - (e + 1) := by
       have := congrArg List.length hk
       rw [List.length_drop, size_l, List.length_cons] at this
       omega
      rw [if_neg (by omega), hw.1, hw.2]
      obtain ⟨i1, i2⟩ := dsc_dfa s n (e + 1 + ((c :: k).takeWhile isK).length) (acc ++ [(s.extract (e + 1) (e + 1 + ((c :: k).takeWhile isK).length)).data.toList]) 8 (by omega) (by omega) h8s
      refine ⟨?_, i2⟩
      rw [i1]
      omega
     ·have h9 : dfa 7 c = 9 := by show (if isK c then 8 else 9) = 9; rw [if_neg hc]
      obtain ⟨d1, d2⟩ := plc_dead 7 c k h9
      rw [List.takeWhile_cons, if_neg hc, d1, d2, if_pos (by simp)]
      exact ⟨rfl, rfl⟩
   ·rw [if_neg h59]
    rw [if_neg h59] at hf
    obtain ⟨d1, d2⟩ := plc_dead q _ (s.data.toList.drop (e + 1)) hf
    rw [hd, d1, d2]
    exact ⟨rfl, rfl⟩
  ·rw [if_neg hlt, List.drop_of_length_le (by rw [size_l]; omega)]
   exact ⟨rfl, hq.1.symm⟩
theorem dig48 (b : UInt8) (h : b.toNat = 48) : isL b = false ∧ isD b = true := by
 have : b = 48 := UInt8.toNat_inj.1 (by rw [h]; rfl)
 subst this
 decide
theorem dig46 (b : UInt8) (h : b.toNat = 46) : isL b = false ∧ isD b = false := by
 have : b = 46 := UInt8.toNat_inj.1 (by rw [h]; rfl)
 subst this
 decide
theorem num_dfa (l : List UInt8) (e m : Nat) (he : e ≤ l.length) (hm : 1 ≤ m) (hL : m = 1 → ∀ b k, l.drop e = b :: k → isL b = false) :
  (numE l e = e ∧ plc (if m = 1 then 0 else 4) (l.drop e) = 0 ∧ dacc (drun (if m = 1 then 0 else 4) (l.drop e)) = false) ∨
  (e < numE l e ∧ numE l e ≤ l.length ∧ ∃ q, (m = 1 → q = 2 ∨ q = 3) ∧ (2 ≤ m → q = 5 ∨ q = 6) ∧ plc (if m = 1 then 0 else 4) (l.drop e) = (numE l e - e) + plc q (l.drop (numE l e)) ∧ drun (if m = 1 then 0 else 4) (l.drop e) = drun q (l.drop (numE l e)) ∧ ((q = 3 ∨ q = 6) → ∀ b k, l.drop (numE l e) = b :: k → isD b = false)) := by
 rcases Nat.lt_or_ge e l.length with hlt | hge
 ·have hd := List.drop_eq_getElem_cons hlt
  have hg : l.getD e 0 = l[e] := by rw [List.getD, List.getElem?_eq_getElem hlt]; rfl
  have hL' : m = 1 → isL l[e] = false := fun h => hL h _ _ hd
  unfold numE
  rw [hg]
  by_cases h48 : (l[e]).toNat = 48
  ·rw [if_pos ⟨h48, hlt⟩]
   obtain ⟨f1, f2⟩ := dig48 _ h48
   right
   refine ⟨by omega, by omega, if m = 1 then 2 else 5, fun h => Or.inl (if_pos h), fun h => Or.inl (if_neg (by omega)), ?_⟩
   have hs : dfa (if m = 1 then 0 else 4) l[e] = if m = 1 then 2 else 5 := by
    by_cases h1 : m = 1
    ·rw [if_pos h1, if_pos h1]
     show (if isL l[e] then 1 else if (l[e]).toNat = 48 then 2 else _) = 2
     rw [f1, if_pos h48]; rfl
    ·rw [if_neg h1, if_neg h1]
     show (if (l[e]).toNat = 48 then 5 else _) = 5
     rw [if_pos h48]
   rw [hd, plc_live _ _ _ (by rw [hs]; split <;> decide), drun_cons, hs]
   refine ⟨by omega, rfl, fun h => ?_⟩
   rcases h with h | h <;> split at h <;> omega
  ·rw [if_neg (by rintro ⟨q, _⟩; exact h48 q)]
   unfold runE
   by_cases hD : isD l[e] = true
   ·right
    have hs : dfa (if m = 1 then 0 else 4) l[e] = if m = 1 then 3 else 6 := by
     by_cases h1 : m = 1
     ·rw [if_pos h1, if_pos h1]
      show (if isL l[e] then 1 else if (l[e]).toNat = 48 then 2 else if isD l[e] then 3 else 9) = 3
      rw [hL' h1, if_neg h48, hD]; rfl
     ·rw [if_neg h1, if_neg h1]
      show (if (l[e]).toNat = 48 then 5 else if isD l[e] then 6 else 9) = 6
      rw [if_neg h48, hD]; rfl
    have hw := plc_while (if m = 1 then 3 else 6) isD (by split <;> decide) (fun b hb => by
     by_cases h1 : m = 1
     ·rw [if_pos h1]; show (if isD b then 3 else _) = 3; rw [hb]; rfl
     ·rw [if_neg h1]; show (if isD b then 6 else _) = 6; rw [hb]; rfl) (l.drop (e + 1))
    have ht : ((l.drop e).takeWhile isD).length = ((l.drop (e + 1)).takeWhile isD).length + 1 := by rw [hd, List.takeWhile_cons, if_pos hD, List.length_cons]
    have hb := (List.takeWhile_prefix (p := isD) (l := l.drop (e + 1))).length_le
    rw [List.length_drop] at hb
    have hdr : (l.drop (e + 1)).drop ((l.drop (e + 1)).takeWhile isD).length = l.drop (e + ((l.drop e).takeWhile isD).length) := by
     rw [List.drop_drop, ht]
     congr 1
     omega
    have hh := head_while isD (l.drop (e + 1))
    rw [hdr] at hw hh
    refine ⟨by omega, by omega, if m = 1 then 3 else 6, fun h => Or.inr (if_pos h), fun h => Or.inr (if_neg (by omega)), ?_, ?_, fun _ b k q => hh b k q⟩
    ·conv => lhs; rw [hd]
     rw [plc_live _ _ _ (by rw [hs]; split <;> decide), hs, hw.1]
     omega
    ·conv => lhs; rw [hd]
     rw [drun_cons, hs, hw.2]
   ·left
    have h9 : dfa (if m = 1 then 0 else 4) l[e] = 9 := by
     by_cases h1 : m = 1
     ·rw [if_pos h1]
      show (if isL l[e] then 1 else if (l[e]).toNat = 48 then 2 else if isD l[e] then 3 else 9) = 9
      rw [hL' h1, if_neg h48, if_neg hD]; rfl
     ·rw [if_neg h1]
      show (if (l[e]).toNat = 48 then 5 else if isD l[e] then 6 else 9) = 9
      rw [if_neg h48, if_neg hD]
    obtain ⟨d1, d2⟩ := plc_dead _ _ (l.drop (e + 1)) h9
    rw [hd, List.takeWhile_cons, if_neg hD, d1, d2]
    exact ⟨rfl, rfl, rfl⟩
 ·left
  rw [List.drop_of_length_le hge]
  refine ⟨?_, rfl, ?_⟩
  ·unfold numE runE
   rw [if_neg (by omega), List.drop_of_length_le hge]
   rfl
  ·show dacc (if m = 1 then 0 else 4) = false
   split <;> rfl
theorem id_dfa (l : List UInt8) : ∀ (n m e : Nat), e ≤ l.length → l.length - e < n → 1 ≤ m → (m = 1 → ∀ b k, l.drop e = b :: k → isL b = false) →
  (
   ((idE l n m e).2 = false ∧ (idE l n m e).1 = e + plc (if m = 1 then 0 else 4) (l.drop e) ∧ dacc (drun (if m = 1 then 0 else 4) (l.drop e)) = false) ∨
   ((idE l n m e).2 = true ∧ e ≤ (idE l n m e).1 ∧ (idE l n m e).1 ≤ l.length ∧ ∃ q, Shut q (l.drop (idE l n m e).1) ∧ plc (if m = 1 then 0 else 4) (l.drop e) = ((idE l n m e).1 - e) + plc q (l.drop (idE l n m e).1) ∧ drun (if m = 1 then 0 else 4) (l.drop e) = drun q (l.drop (idE l n m e).1)))
 | 0, m, e, he, hn, hm, hL => by omega
 | n + 1, m, e, he, hn, hm, hL => by
  unfold idE
  rcases num_dfa l e m he hm hL with ⟨h1, h2, h3⟩ | ⟨h1, hle, q, q1, q2, h2, h3, h4⟩
  ·rw [if_pos h1]
   left
   exact ⟨rfl, by rw [h2]; rfl, h3⟩
  ·rw [if_neg (by omega)]
   generalize numE l e = t at *
   by_cases hx : t = l.length ∨ ¬ (l.getD t 0).toNat = 46
   ·rw [if_pos hx]
    have hno : ∀ b k, l.drop t = b :: k → b.toNat ≠ 46 := by
     intro b k hk
     have hlt : t < l.length := by
      rcases Nat.lt_or_ge t l.length with h | h
      ·exact h
      ·rw [List.drop_of_length_le h] at hk; cases hk
     rw [List.drop_eq_getElem_cons hlt] at hk
     injection hk with hk _
     rcases hx with hx | hx
     ·omega
     ·rw [List.getD, List.getElem?_eq_getElem hlt, Option.getD_some, hk] at hx
      exact hx
    by_cases hm1 : m = 1
    ·left
     rw [if_pos hm1] at *
     refine ⟨by subst hm1; rfl, ?_⟩
     rw [h3, h2]
     have hz : plc q (l.drop t) = 0 ∧ dacc (drun q (l.drop t)) = false := by
      cases hk : l.drop t with
      | nil => rcases q1 hm1 with rfl | rfl <;> exact ⟨rfl, rfl⟩
      | cons b k =>
       have h46 := hno b k hk
       have h9 : dfa q b = 9 := by
        rcases q1 hm1 with rfl | rfl
        ·show (if b.toNat = 46 then 4 else 9) = 9; rw [if_neg h46]
        ·show (if isD b then 3 else if b.toNat = 46 then 4 else 9) = 9
         rw [h4 (Or.inl rfl) b k hk, if_neg h46]; rfl
       obtain ⟨d1, d2⟩ := plc_dead q b k h9
       rw [d1, d2]
       exact ⟨rfl, rfl⟩
     rw [hz.1]
     exact ⟨by show t = _; omega, hz.2⟩
    ·right
     refine ⟨decide_eq_true (by omega), by show e ≤ t; omega, hle, q, ⟨?_, ?_⟩, h2, h3⟩
     ·rcases q2 (by omega) with rfl | rfl <;> rfl
     ·intro b k hk
      have h46 := hno b k hk
      rcases q2 (by omega) with rfl | rfl
      ·show (if b.toNat = 46 then 4 else if b.toNat = 59 then 7 else 9) = _
       rw [if_neg h46]
      ·show (if isD b then 6 else if b.toNat = 46 then 4 else if b.toNat = 59 then 7 else 9) = _
       rw [h4 (Or.inr rfl) b k hk, if_neg h46]; rfl
   ·rw [if_neg hx]
    have hlt : t < l.length := by omega
    have h46 : (l[t]).toNat = 46 := by
     have := Decidable.not_not.1 (fun h => hx (Or.inr h))
     rw [List.getD, List.getElem?_eq_getElem hlt, Option.getD_some] at this
     exact this
    have hd := List.drop_eq_getElem_cons hlt
    have hs : dfa q l[t] = 4 := by
     obtain ⟨_, fD⟩ := dig46 _ h46
     rcases Nat.lt_or_ge m 2 with h | h
     ·rcases q1 (by omega) with rfl | rfl
      ·show (if (l[t]).toNat = 46 then 4 else 9) = 4; rw [if_pos h46]
      ·show (if isD l[t] then 3 else if (l[t]).toNat = 46 then 4 else 9) = 4; rw [fD, if_pos h46]; rfl
     ·rcases q2 h with rfl | rfl
      ·show (if (l[t]).toNat = 46 then 4 else _) = 4; rw [if_pos h46]
      ·show (if isD l[t] then 6 else if (l[t]).toNat = 46 then 4 else _) = 4; rw [fD, if_pos h46]; rfl
    rw [hd, plc_live _ _ _ (by rw [hs]; decide), hs] at h2
    rw [hd, drun_cons, hs] at h3
    have ih := id_dfa l n (m + 1) (t + 1) (by omega) (by omega) (by omega) (fun h => by omega)
    rw [if_neg (by omega : ¬ m + 1 = 1)] at ih
    rcases ih with ⟨i1, i2, i3⟩ | ⟨i1, i2, i3, q', i4, i5, i6⟩
    ·left
     refine ⟨i1, ?_, by rw [h3]; exact i3⟩
     rw [i2, h2]
     omega
    ·right
     refine ⟨i1, by omega, i3, q', i4, ?_, by rw [h3, i6]⟩
     rw [h2, i5]
     omega
theorem desc_dfa (f : ByteArray) : (desc f).2.1 = plc 0 f.data.toList ∧ (desc f).2.2 = dacc (drun 0 f.data.toList) := by
 unfold desc typE
 by_cases hl : ¬ f.data.toList = [] ∧ isL (f.data.toList.getD 0 0) = true
 ·rw [if_pos hl, if_pos rfl]
  cases hk : f.data.toList with
  | nil => exact absurd hk hl.1
  | cons b k =>
   have hb : isL b = true := by have := hl.2; rw [hk] at this; exact this
   have h1 : dfa 0 b = 1 := by show (if isL b then 1 else _) = 1; rw [hb]; rfl
   have hw := plc_while 1 isK (by decide) (fun b hb => by show (if isK b then 1 else _) = 1; rw [hb]; rfl) k
   have hr : runE isK (b :: k) 1 = 1 + (k.takeWhile isK).length := rfl
   have hdr : k.drop (k.takeWhile isK).length = f.data.toList.drop (1 + (k.takeWhile isK).length) := by rw [hk, Nat.add_comm, List.drop_succ_cons]
   have hsh : Shut 1 (f.data.toList.drop (1 + (k.takeWhile isK).length)) := by
    rw [← hdr]
    refine ⟨rfl, fun c r h => ?_⟩
    have := head_while isK k c r h
    show (if isK c then 1 else if c.toNat = 59 then 7 else 9) = _
    rw [this]; rfl
   have hkl : (k.takeWhile isK).length ≤ k.length := (List.takeWhile_prefix _).length_le
   have hsz : k.length + 1 = f.size := by rw [← size_l, hk, List.length_cons]
   rw [plc_live _ _ _ (by rw [h1]; decide), drun_cons, h1, hw.1, hw.2, hdr, hr]
   obtain ⟨d1, d2⟩ := dsc_dfa f (f.size + 1) (1 + (k.takeWhile isK).length) [] 1 (by omega) (by omega) hsh
   refine ⟨?_, d2⟩
   rw [d1]
   omega
 ·rw [if_neg hl]
  have hL : (1 = 1 → ∀ b k, f.data.toList.drop 0 = b :: k → isL b = false) := by
   intro _ b k h
   rw [List.drop_zero] at h
   cases hb : isL b with
   | false => rfl
   | true => exact absurd ⟨by rw [h]; simp, by rw [h]; exact hb⟩ hl
  have h := id_dfa f.data.toList (f.data.toList.length + 1) 1 0 (by omega) (by omega) (by omega) hL
  rw [if_pos rfl, List.drop_zero] at h
  rcases h with ⟨i1, i2, i3⟩ | ⟨i1, i2, i3, q, i4, i5, i6⟩
  ·rw [if_neg (by rw [i1]; decide)]
   exact ⟨by show (idE _ _ _ _).1 = _; rw [i2]; omega, i3.symm⟩
  ·rw [if_pos i1, i5, i6]
   rw [size_l] at i3
   obtain ⟨d1, d2⟩ := dsc_dfa f (f.size + 1) (idE f.data.toList (f.data.toList.length + 1) 1 0).1 [] q i3 (by omega) i4
   refine ⟨?_, d2⟩
   rw [d1]
   omega
theorem dfa_le (q : Nat) (b : UInt8) : dfa q b ≤ 9 := by
 unfold dfa
 split <;> (repeat' split) <;> omega
theorem drun_le : ∀ (l : List UInt8) (q : Nat), q ≤ 9 → drun q l ≤ 9
 | [], q, h => h
 | b :: l, q, h => drun_le l _ (dfa_le q b)
theorem plc_le : ∀ (l : List UInt8) (q : Nat), plc q l ≤ l.length
 | [], q => Nat.le_refl _
 | b :: l, q => by
  unfold plc
  split
  ·omega
  ·have := plc_le l (dfa q b)
   rw [List.length_cons]
   omega
theorem plc_ahead : ∀ (l : List UInt8) (q : Nat), q ≠ 9 → drun q (l.take (plc q l)) ≠ 9
 | [], q, h => h
 | b :: l, q, h => by
  by_cases h9 : dfa q b = 9
  ·rw [(plc_dead q b l h9).1]; exact h
  ·rw [plc_live q b l h9, List.take_succ_cons, drun_cons]
   exact plc_ahead l _ h9
theorem plc_with : ∀ (l : List UInt8) (q : Nat), plc q l < l.length → drun q (l.take (plc q l + 1)) = 9
 | [], q, h => by simp at h
 | b :: l, q, h => by
  by_cases h9 : dfa q b = 9
  ·rw [(plc_dead q b l h9).1, List.take_succ_cons, List.take_zero, drun_cons, h9]; rfl
  ·rw [plc_live q b l h9] at h ⊢
   rw [List.take_succ_cons, drun_cons]
   refine plc_with l _ ?_
   rw [List.length_cons] at h
   omega
def goesL (t : List UInt8) : Bool := dacc (drun 0 t) || dacc (drun 0 (t ++ [97])) || dacc (drun 0 (t ++ [49])) || dacc (drun 0 (t ++ [46, 49]))
theorem goes_iff (t : List UInt8) : goesL t = decide (drun 0 t ≠ 9) := by
 unfold goesL
 rw [drun_app, drun_app, drun_app]
 have h := drun_le t 0 (by omega)
 generalize drun 0 t = q at *
 have : ∀ q : Fin 10, (dacc q.val || dacc (drun q.val [97]) || dacc (drun q.val [49]) || dacc (drun q.val [46, 49])) = decide (q.val ≠ 9) := by decide
 exact this ⟨q, by omega⟩
end Go.Proofs.YtkknenmpdimdbaaGreatDoor
