import Derived.Test.YtkknenmpdimdbaaGreatDoorAtBook
import Derived.Test.YtkknenmpdimdbaaGreatDoorFW4
import Derived.Deep.RegionHeld3
import Derived.Deep.RegionHeldLaw
import Derived.Deep.DeepCutAuto
import Derived.Test.YtkknenmpdimdbaaGreatDoorRows
import Derived.Test.YtkknenmpdimdbaaGreatDoorBytes
import Derived.BigQuiet
import Derived.KernelRfl
namespace Go.Proofs.YtkknenmpdimdbaaGreatDoor
open Go.RowKit
def hit (f : ByteArray) (i : Fin 62) : Bool := !f.toList.isEmpty && decide (f = (rowL i).1 ∨ f = (rowL i).2.1 ∨ f = (rowL i).2.2)
def oneD (f : ByteArray) : Option (Fin 62) → DataW Nat
 | none => .map []
 | some i => .map [(.string f.data.toList, .lit (.int .i64 (i.1 : Int)))]
theorem put_one (f : ByteArray) (o : Option (Fin 62)) (i : Fin 62) : (oneD f o).put (.string f.data.toList) (.lit (.int .i64 (i.1 : Int))) = oneD f (some i) := by
 cases o with
 | none => rfl
 | some j =>
  have hs : (Lit.string f.data.toList).sameKey (.string f.data.toList) = true := by simp [Lit.sameKey]
  simp [oneD, DataW.put, hs, DataW.insert]
theorem step_one (f : ByteArray) (o : Option (Fin 62)) (i : Fin 62) (s : ByteArray) : stepD [f] i (oneD f o) s = oneD f (if ¬ s.toList = [] ∧ s = f then some i else o) := by
 have hc : Lib.containsS [f] s = true ↔ s = f := by rw [Lib.containsS_iff]; simp
 unfold stepD
 by_cases h : ¬ s.toList = [] ∧ s = f
 ·rw [if_pos ⟨h.1, hc.2 h.2⟩, if_pos h, h.2, put_one]
 ·rw [if_neg (fun h' => h ⟨h'.1, hc.1 h'.2⟩), if_neg h]
theorem hit_iff (f : ByteArray) (i : Fin 62) : hit f i = true ↔ (¬ f.toList = [] ∧ (f = (rowL i).1 ∨ f = (rowL i).2.1 ∨ f = (rowL i).2.2)) := by
 unfold hit
 rw [Bool.and_eq_true, Bool.not_eq_true', decide_eq_true_eq]
 constructor
 ·rintro ⟨h1, h2⟩
  refine ⟨fun h => ?_, h2⟩
  rw [h] at h1
  cases h1
 ·rintro ⟨h1, h2⟩
  refine ⟨?_, h2⟩
  cases hf : f.toList with
  | nil => exact absurd hf h1
  | cons x l => rfl
theorem fold_one (f : ByteArray) (o : Option (Fin 62)) (i : Fin 62) : (nms i).foldl (stepD [f] i) (oneD f o) = oneD f (if hit f i = true then some i else o) := by
 show stepD [f] i (stepD [f] i (stepD [f] i (oneD f o) (rowL i).1) (rowL i).2.1) (rowL i).2.2 = _
 rw [step_one, step_one, step_one]
 congr 1
 by_cases h : hit f i = true
 ·rw [if_pos h]
  obtain ⟨h1, h2⟩ := (hit_iff f i).1 h
  by_cases e2 : (rowL i).2.2 = f
  ·rw [if_pos ⟨by rw [e2]; exact h1, e2⟩]
  ·rw [if_neg (fun h => e2 h.2)]
   by_cases e1 : (rowL i).2.1 = f
   ·rw [if_pos ⟨by rw [e1]; exact h1, e1⟩]
   ·rw [if_neg (fun h => e1 h.2)]
    have e0 : (rowL i).1 = f := by
     rcases h2 with h2 | h2 | h2
     ·exact h2.symm
     ·exact absurd h2.symm e1
     ·exact absurd h2.symm e2
    rw [if_pos ⟨by rw [e0]; exact h1, e0⟩]
 ·rw [if_neg h]
  have hn : ∀ s, s = (rowL i).1 ∨ s = (rowL i).2.1 ∨ s = (rowL i).2.2 → ¬ (¬ s.toList = [] ∧ s = f) := fun s hs h' => h ((hit_iff f i).2 ⟨by rw [← h'.2]; exact h'.1, by rw [← h'.2]; exact hs⟩)
  rw [if_neg (hn _ (Or.inr (Or.inr rfl))), if_neg (hn _ (Or.inr (Or.inl rfl))), if_neg (hn _ (Or.inl rfl))]
def lastHit (f : ByteArray) (pre : List (Fin 62)) : Option (Fin 62) := pre.foldl (fun o i => if hit f i = true then some i else o) none
theorem mapD_one (f : ByteArray) (pre : List (Fin 62)) : mapD [f] pre = oneD f (lastHit f pre) := by
 have : ∀ (l : List (Fin 62)) (o : Option (Fin 62)), l.foldl (fun D i => (nms i).foldl (stepD [f] i) D) (oneD f o) = oneD f (l.foldl (fun o i => if hit f i = true then some i else o) o) := by
  intro l
  induction l with
  | nil => intro o; rfl
  | cons i l ih => intro o; rw [List.foldl_cons, List.foldl_cons, fold_one, ih]
 exact this pre none
def rowOf (f : ByteArray) : Option (Fin 62) := (List.finRange 62).find? (hit f)
set_option maxRecDepth 100000 in
theorem apart_rows : (List.finRange 62).all (fun i => (List.finRange 62).all (fun j => decide (i = j) || (nms i).all (fun s => s.toList.isEmpty || (nms j).all (fun t => decide (s ≠ t))))) = true := by kernel_rfl
theorem hit_unique (f : ByteArray) (i j : Fin 62) (hi : hit f i = true) (hj : hit f j = true) : i = j := by
 have h := List.all_eq_true.1 (List.all_eq_true.1 apart_rows i (List.mem_finRange i)) j (List.mem_finRange j)
 obtain ⟨h1, h2⟩ := (hit_iff f i).1 hi
 obtain ⟨_, h3⟩ := (hit_iff f j).1 hj
 rw [Bool.or_eq_true, decide_eq_true_eq] at h
 rcases h with h | h
 ·exact h
 ·have h4 := List.all_eq_true.1 h f (by unfold nms; simpa using h2)
  rw [Bool.or_eq_true] at h4
  rcases h4 with h4 | h4
  ·exact absurd (by simpa using h4) h1
  ·have h5 := List.all_eq_true.1 h4 f (by unfold nms; simpa using h3)
   exact absurd rfl (of_decide_eq_true h5)
theorem last_find (f : ByteArray) : lastHit f (upF 62) = rowOf f := by
 have e : upF 62 = List.finRange 62 := by unfold upF; rw [List.take_of_length_le (by simp)]
 have key : ∀ (l : List (Fin 62)) (o : Option (Fin 62)), (∀ i, o = some i → hit f i = true) → l.foldl (fun o i => if hit f i = true then some i else o) o = (match o with | some i => some i | none => l.find? (hit f)) := by
  intro l
  induction l with
  | nil => intro o _; cases o <;> rfl
  | cons i l ih =>
   intro o ho
   rw [List.foldl_cons]
   by_cases h : hit f i = true
   ·rw [if_pos h, ih (some i) (fun j hj => by injection hj with hj; rw [← hj]; exact h)]
    cases o with
    | none => show some i = List.find? (hit f) (i :: l); rw [List.find?_cons_of_pos h]
    | some j => show some i = some j; rw [hit_unique f i j h (ho j rfl)]
   ·rw [if_neg h, ih o ho]
    cases o with
    | none => show List.find? (hit f) l = List.find? (hit f) (i :: l); rw [List.find?_cons_of_neg h]
    | some j => rfl
 unfold lastHit rowOf
 rw [e, key _ none (fun i hi => by cases hi)]
theorem map_has (f : ByteArray) : Maps.has (mapD [f] (upF 62)) (.string f.data.toList) = (rowOf f).isSome := by
 rw [mapD_one, last_find]
 cases rowOf f with
 | none => rfl
 | some i => simp [oneD, Maps.has, Lit.sameKey]
theorem map_at (f : ByteArray) (i : Fin 62) (h : rowOf f = some i) (z : DataW Nat) : (mapD [f] (upF 62)).atKey (.string f.data.toList) z = .lit (.int .i64 (i.1 : Int)) := by
 rw [mapD_one, last_find, h]
 simp [oneD, DataW.atKey, Lit.sameKey]
end Go.Proofs.YtkknenmpdimdbaaGreatDoor

namespace Go.Proofs.YtkknenmpdimdbaaGreatDoor
open Go.RowKit
def SUP : List Int := [0, 0, 0, 0, 2, 2, 0, 2, 2, 2, 0, 2, 2, 2, 0, 0, 0, 0, 0, 0, 0, 0, 0, 0, 16, 0, 3, 3, 3, 3, 0, 2, 2, 2, 0, 0, 8, 9, 11, 12, 0, 0, 0, 0, 0, 0, 0, 0, 0, 0, 0, 0, 0, 0, 0, 0, 0, 0, 0, 0, 0, 0]
def SYN : List Int := [11, 10, 1, 10, 1, 1, 1, 1, 1, 1, 1, 1, 1, 1, 1, 1, 13, 1, 1, 1, 6, 6, 5, 5, 13, 1, 10, 10, 10, 10, 9, 1, 1, 1, 1, 1, 1, 1, 1, 1, 1, 3, 1, 10, 6, 10, 3, 6, 6, 1, 1, 7, 7, 4, 4, 2, 12, 12, 10, 10, 8, 14]
end Go.Proofs.YtkknenmpdimdbaaGreatDoor

namespace Go.Proofs.YtkknenmpdimdbaaGreatDoor
open Go.RowKit
theorem bkC_full (m : Nat) : bkC m (upF 62) = (labs.flatMap lbC ++ [Value.map (some m)]).toArray := by kernel_rfl
theorem flat_at (l : List Lb) (j r : Nat) (hj : j < l.length) (hr : r < 3) : (l.flatMap lbC)[j * 3 + r]? = (lbC l[j])[r]? := by
 induction l generalizing j with
 | nil => simp at hj
 | cons m l ih =>
  have e : (m :: l).flatMap lbC = lbC m ++ l.flatMap lbC := rfl
  have h3 : (lbC m).length = 3 := rfl
  rw [e]
  cases j with
  | zero => rw [List.getElem?_append_left (by omega)]; simp
  | succ j =>
   rw [List.getElem?_append_right (by omega), h3, show (j + 1) * 3 + r - 3 = j * 3 + r by omega, ih j (by simpa using hj)]
   rfl
theorem flat_len (l : List Lb) : (l.flatMap lbC).length = l.length * 3 := by
 induction l with
 | nil => rfl
 | cons m l ih =>
  have e : (m :: l).flatMap lbC = lbC m ++ l.flatMap lbC := rfl
  rw [e, List.length_append, ih, List.length_cons]
  show 3 + _ = _
  omega
def Book (W : World) (b m : Nat) : Prop := W.heap[b]? = some (.cells (bkC m (upF 62)) 133 (0, 0))
theorem Book.cells {W : World} {b m : Nat} (h : Book W b m) (i : Fin 62) : W.cell? ⟨b, i.1 * 3, none⟩ = some (.string (rowL i).1) ∧ W.cell? ⟨b, i.1 * 3 + 1, none⟩ = some (.string (rowL i).2.1) ∧ W.cell? ⟨b, i.1 * 3 + 2, none⟩ = some (.string (rowL i).2.2) := by
 have hl : i.1 < labs.length := by rw [labs_len]; exact i.2
 have key : ∀ r, r < 3 → W.cell? ⟨b, i.1 * 3 + r, none⟩ = (lbC (rowL i))[r]? := fun r hr => by
  rw [cell_of_row W b _ _ _ _ h, bkC_full]
  rw [List.getElem?_toArray, List.getElem?_append_left (by rw [flat_len, labs_len]; have := i.2; omega), flat_at labs i.1 r hl hr]
  rfl
 exact ⟨key 0 (by omega), key 1 (by omega), key 2 (by omega)⟩
theorem Book.map {W : World} {b m : Nat} (h : Book W b m) : W.cell? ⟨b, 186, none⟩ = some (.map (some m)) := by
 rw [cell_of_row W b _ _ _ _ h, bkC_last]
theorem Book.lt {W : World} {b m : Nat} (h : Book W b m) : b < W.heap.size := (Array.getElem?_eq_some_iff.1 h).1
theorem Book.below {W W' : World} {b m : Nat} (h : Book W b m) (hb : Below W.heap.size W W') : Book W' b m := (hb.block b h.lt).trans h
end Go.Proofs.YtkknenmpdimdbaaGreatDoor

namespace Go.Proofs.YtkknenmpdimdbaaGreatDoor
namespace TextMath
def lo (b : UInt8) : UInt8 := if 65 ≤ b.toNat ∧ b.toNat ≤ 90 then UInt8.ofNat (b.toNat + 32) else b
def bl (b : UInt8) : Bool := decide (b.toNat = 32) || (decide (9 ≤ b.toNat) && decide (b.toNat ≤ 13))
theorem lo_toNat (b : UInt8) : (lo b).toNat = if 65 ≤ b.toNat ∧ b.toNat ≤ 90 then b.toNat + 32 else b.toNat := by
 unfold lo; split
 ·rw [UInt8.toNat_ofNat']; omega
 ·rfl
theorem bl_32 : bl 32 = true := by decide
def fold (l : List UInt8) : List UInt8 := l.map lo
def col : Bool → List UInt8 → List UInt8
 | _, [] => []
 | r, b :: t => if bl b then (if r then col true t else 32 :: col true t) else b :: col false t
def trimP (l : List UInt8) : List UInt8 := if l.head? = some 32 then l.drop 1 else l
def trimS (l : List UInt8) : List UInt8 := if l.getLast? = some 32 then l.dropLast else l
def squeeze (l : List UInt8) : List UInt8 := trimS (trimP (col false l))
def normal (l : List UInt8) : List UInt8 := squeeze (fold l)
def sqB : Bool → List UInt8 → List UInt8
 | _, [] => []
 | p, b :: t => if bl b then sqB true t else (if p then [32, b] else [b]) ++ sqB false t
def sqA : List UInt8 → List UInt8
 | [] => []
 | b :: t => if bl b then sqA t else b :: sqB false t
theorem ne32 {b : UInt8} (h : bl b = false) : b ≠ 32 := by rintro rfl; rw [bl_32] at h; cases h
theorem trimS_snoc (p : List UInt8) (x : UInt8) (h : x ≠ 32) : trimS (p ++ [x]) = p ++ [x] := by
 unfold trimS; rw [if_neg]; simp [h]
theorem trimS_sp (p : List UInt8) : trimS (p ++ [32]) = p := by
 unfold trimS; rw [if_pos (by simp)]; simp
theorem trimS_col (l : List UInt8) : (∀ p x, x ≠ 32 → trimS (p ++ [x] ++ col false l) = p ++ [x] ++ sqB false l) ∧ (∀ p x, x ≠ 32 → trimS (p ++ [x] ++ [32] ++ col true l) = p ++ [x] ++ sqB true l) := by
 induction l with
 | nil => exact ⟨fun p x h => by simp [col, sqB, trimS_snoc p x h], fun p x h => by simp only [col, sqB, List.append_nil]; exact trimS_sp _⟩
 | cons b t ih =>
  by_cases hb : bl b = true
  ·refine ⟨fun p x h => ?_, fun p x h => ?_⟩
   ·simp only [col, sqB, hb, if_true]
    have := ih.2 p x h
    simpa using this
   ·simp only [col, sqB, hb, if_true]
    exact ih.2 p x h
  ·have hb' : bl b = false := by simpa using hb
   refine ⟨fun p x h => ?_, fun p x h => ?_⟩
   ·simp only [col, sqB, hb', Bool.false_eq_true, if_false]
    have := ih.1 (p ++ [x]) b (ne32 hb')
    simpa using this
   ·simp only [col, sqB, hb', Bool.false_eq_true, if_false, if_true]
    have := ih.1 (p ++ [x] ++ [32]) b (ne32 hb')
    simpa using this
theorem trimS_colT (l : List UInt8) : trimS (col true l) = sqA l := by
 induction l with
 | nil => rfl
 | cons b t ih =>
  by_cases hb : bl b = true
  ·simp only [col, sqA, hb, if_true]; exact ih
  ·have hb' : bl b = false := by simpa using hb
   simp only [col, sqA, hb', Bool.false_eq_true, if_false]
   have := (trimS_col t).1 [] b (ne32 hb')
   simpa using this
theorem squeeze_eq (l : List UInt8) : squeeze l = sqA l := by
 unfold squeeze
 cases l with
 | nil => rfl
 | cons b t =>
  by_cases hb : bl b = true
  ·simp only [col, sqA, hb, if_true, Bool.false_eq_true, if_false]
   have : trimP (32 :: col true t) = col true t := by simp [trimP]
   rw [this, trimS_colT]
  ·have hb' : bl b = false := by simpa using hb
   simp only [col, sqA, hb', Bool.false_eq_true, if_false]
   have : trimP (b :: col false t) = b :: col false t := by
    unfold trimP; rw [if_neg]; simp [ne32 hb']
   rw [this]
   have := (trimS_col t).1 [] b (ne32 hb')
   simpa using this
theorem normal_eq (l : List UInt8) : normal l = sqA (fold l) := squeeze_eq _
theorem col_length (l : List UInt8) : ∀ r, (col r l).length ≤ l.length := by
 induction l with
 | nil => intro r; simp [col]
 | cons b t ih =>
  intro r
  have h1 := ih true
  have h2 := ih false
  simp only [col]
  split
  ·split <;> simp <;> omega
  ·simp; omega
end TextMath
end Go.Proofs.YtkknenmpdimdbaaGreatDoor

namespace Go.Proofs.YtkknenmpdimdbaaGreatDoor
open TextMath (fold lo)
theorem setTo (l : List UInt8) (k : Nat) (h : k < l.length) : ((l.take k).map lo ++ l.drop k).set k (lo l[k]) = (l.take (k + 1)).map lo ++ l.drop (k + 1) := by
 rw [List.take_succ_eq_append_getElem h, List.set_append, if_neg (by simp; omega)]
 have e : k - (List.map lo (l.take k)).length = 0 := by simp; omega
 rw [e, List.drop_eq_getElem_cons h]
 simp only [List.set_cons_zero, List.map_append, List.map_cons, List.map_nil, List.append_assoc, List.cons_append, List.nil_append]
theorem keepTo (l : List UInt8) (k : Nat) (h : k < l.length) (e : lo l[k] = l[k]) : (l.take (k + 1)).map lo ++ l.drop (k + 1) = (l.take k).map lo ++ l.drop k := by
 rw [List.take_succ_eq_append_getElem h, List.drop_eq_getElem_cons h]
 simp only [List.map_append, List.map_cons, List.map_nil, List.append_assoc, List.cons_append, List.nil_append, e]
theorem getTo (l : List UInt8) (k : Nat) (h : k < l.length) (hh : k < ((l.take k).map lo ++ l.drop k).length) : ((l.take k).map lo ++ l.drop k)[k] = l[k] := by
 have e : (List.map lo (l.take k)).length = k := by simp; omega
 rw [List.getElem_append_right (by omega)]
 simp only [e, Nat.sub_self, List.getElem_drop, Nat.add_zero]
theorem lenTo (l : List UInt8) (k : Nat) (h : k ≤ l.length) : ((l.take k).map lo ++ l.drop k).length = l.length := by simp; omega
theorem lo_big (c : UInt8) (h1 : (65 : Int) ≤ c.toNat) (h2 : (c.toNat : Int) ≤ 90) : ((lo c).toNat : Int) = c.toNat + 32 := by
 rw [TextMath.lo_toNat, if_pos (by omega)]; omega
theorem lo_small (c : UInt8) (h : ¬ ((65 : Int) ≤ c.toNat ∧ (c.toNat : Int) ≤ 90)) : lo c = c := by
 unfold lo; rw [if_neg (by omega)]
theorem fold_snoc (l : List UInt8) (k : Nat) (h : k < l.length) : fold (l.take (k + 1)) = fold (l.take k) ++ [lo l[k]] := by
 rw [List.take_succ_eq_append_getElem h]; simp only [fold, List.map_append, List.map_cons, List.map_nil]
theorem fold_len (l : List UInt8) : (fold l).length = l.length := by simp [fold]
end Go.Proofs.YtkknenmpdimdbaaGreatDoor

namespace Go.Proofs.YtkknenmpdimdbaaGreatDoor
open Go.RowKit
open TextMath (fold lo)
set_option maxHeartbeats 400000 in
theorem fold_any (s : ByteArray) (w : World) (hm : s.size ≤ maxLen) :
  Calls Tryz.prog 81 #[.string s] w fun e w' => e = .returned (.string (S (fold s.data.toList))) ∧ Below w.heap.size w w' := by
 unfold maxLen at hm
 have hL : Hid (s.data.toList.length = s.size) := size_l s
 obtain ⟨W1, cap, hconv, hb1, hz1, hr1⟩ := conv_bytes (P := Tryz.prog) w 9 87 5 s Tryz.underlying9 Tryz.underlying87 Tryz.underlying5
 go_enter Tryz.func81, Tryz.ntmps81
 go_wp2
 go_loopw [10] (fun i wr => ∃ k : Nat, k ≤ s.size ∧ i = .int .i64 k ∧ Below w.heap.size w wr ∧ BRow wr w.heap.size ((s.data.toList.take k).map lo ++ s.data.toList.drop k)) (fun i _ => s.size - (intOf i).toNat)
 case atStart => exact ⟨0, Nat.zero_le _, rfl, hb1, by simpa using hr1⟩
 case round =>
  clear hconv
  obtain ⟨k, hk, rfl, hb, hr⟩ := hrel
  by_cases hlt : k < s.size
  ·have hkl : k < s.data.toList.length := by rw [hL.out]; exact hlt
   have hkt : k < ((s.data.toList.take k).map lo ++ s.data.toList.drop k).length := by rw [lenTo _ _ (by omega)]; exact hkl
   obtain ⟨hc, hf⟩ := hr k hkt
   rw [getTo _ _ hkl hkt] at hc
   have hset := hr.set k hkt (lo s.data.toList[k])
   rw [setTo _ _ hkl] at hset
   have hkeep := keepTo s.data.toList k hkl
   generalize s.data.toList[k] = c at *
   have hc256 : c.toNat < 256 := c.toNat_lt
   by_cases h1 : (65 : Int) ≤ c.toNat ∧ (c.toNat : Int) ≤ 90
   ·rw [lo_big c h1.1 h1.2] at hset
    obtain ⟨h1, h2⟩ := h1
    have HS : Hid (BRow _ _ _) := hset
    clear hset hkeep hr hr1
    go_wp2
    go_roundw
    case rel => exact ⟨k + 1, by omega, by go_num, hb.setCell (Nat.le_refl _) _, HS.out⟩
    case measure => simp [intOf]; omega
   ·have hke := hkeep (lo_small c h1)
    have HS : Hid (BRow wr w.heap.size (List.map lo (List.take (k + 1) s.data.toList) ++ List.drop (k + 1) s.data.toList)) := by rw [hke]; exact hr
    clear hset hkeep hr hr1 hke
    by_cases h2 : (65 : Int) ≤ c.toNat
    ·have h3 : ¬ (c.toNat : Int) ≤ 90 := fun h => h1 ⟨h2, h⟩
     clear h1
     go_wp2
     go_roundw
     case rel => exact ⟨k + 1, by omega, by go_num, hb, HS.out⟩
     case measure => simp [intOf]; omega
    ·clear h1
     go_wp2
     go_roundw
     case rel => exact ⟨k + 1, by omega, by go_num, hb, HS.out⟩
     case measure => simp [intOf]; omega
  ·have hk2 : k = s.size := by omega
   subst hk2
   have hback := conv_back (P := Tryz.prog) wr 87 9 5 w.heap.size s.size cap (fold s.data.toList) Tryz.underlying87 Tryz.underlying5 Tryz.underlying9 (by simp [fold]) (by
    have e : List.map lo (List.take s.size s.data.toList) ++ List.drop s.size s.data.toList = fold s.data.toList := by
     rw [List.take_of_length_le (by rw [hL.out]; exact Nat.le_refl _), List.drop_eq_nil_of_le (by rw [hL.out]; exact Nat.le_refl _)]; simp [fold]
    rw [← e]; exact hr)
   clear hr hr1
   go_wp2
   go_ret
   exact ⟨rfl, hb⟩
end Go.Proofs.YtkknenmpdimdbaaGreatDoor

namespace Go.Proofs.YtkknenmpdimdbaaGreatDoor
open Go.RowKit
open TextMath (fold lo)
theorem con_one (f : ByteArray) (g : Nat) (w : World) (hg : w.cell? ⟨g, 0, none⟩ = some (.string f)) : ∀ W x, Below w.heap.size w W → Hid (Calls Tryz.prog 69 #[.slice (some ⟨g, 0, none⟩) 1 1, .string x] W fun e w' => e = .returned (.bool (Lib.containsS [f] x)) ∧ w' = W) := fun W x hb => by
 have h := Tryz.slices_Contains_string g 0 1 1 [f] x W (by simp) (by decide) (fun j hj => by
  have : j = 0 := by simp at hj; exact hj
  subst this
  rw [hb.cell (World.block_lt_of_cell? w _ hg)]
  exact hg)
 exact h
theorem openBook_one (f : ByteArray) (g : Nat) (w : World) (hg : w.cell? ⟨g, 0, none⟩ = some (.string f)) :
  Calls Tryz.prog 83 #[.slice (some ⟨g, 0, none⟩) 1 1] w fun e w' => ∃ B cs, w.heap.size ≤ B ∧ e = .returned (.agg cs) ∧ Hid (bkC B (upF 62) = cs) ∧ cs.size = 187 ∧ (∀ v ∈ cs.toList, v.oneCell' = true) ∧ cs[186]? = some (.map (some B)) ∧ Hid (w'.ownsMap Tryz.prog 9 (plainElem (H := Nat) Tryz.prog 3) B 186 (mapD [f] (upF 62))) ∧ Below w.heap.size w w' := by
 refine (openBook_any _ 1 1 [f] w (con_one f g w hg)).mono ?_
 intro e w' h
 obtain ⟨B, h1, h2, h3, h4⟩ := h
 exact ⟨B, bkC B (upF 62), h1, h2, rfl, bkC_size _ _, bkC_one _ _, bkC_last _ _, h3, h4⟩
theorem st_book (W : World) (cs : Array Value) (hz : cs.size = 187) (h1 : ∀ v ∈ cs.toList, v.oneCell' = true) : (storeCells ⟨W.heap.size, 0, none⟩ cs.toList 0).run Tryz.prog (W.alloc (.cells Tryz.zeroCells133 133)) = .ok () (W.alloc (.cells cs 133)) := by
 refine run_storeCells_new W _ _ cs (by rw [hz]; kernel_rfl) (by rw [hz]; kernel_rfl) ?_
 rw [Array.all_eq_true']
 intro v hv
 exact h1 v (by simpa using hv)
end Go.Proofs.YtkknenmpdimdbaaGreatDoor

namespace Go.Proofs.YtkknenmpdimdbaaGreatDoor
open Go.RowKit
def canN (f : ByteArray) : ByteArray := match rowOf f with
 | none => f
 | some i => (rowL i).1
set_option maxRecDepth 100000 in
set_option maxHeartbeats 400000 in
theorem canonical_any (f : ByteArray) (b B : Nat) (W : World) (hbk : Book W b B) (hM : W.ownsMap Tryz.prog 9 (plainElem (H := Nat) Tryz.prog 3) B 186 (mapD [f] (upF 62))) (hfz : f.size ≤ maxLen) :
  Calls Tryz.prog 84 #[.pointer (some ⟨b, 0, none⟩), .string f] W fun e w' => e = .returned (.string (canN f)) ∧ w' = W := by
 obtain ⟨D, hD⟩ : ∃ D, mapD [f] (upF 62) = D := ⟨_, rfl⟩
 have hhas := map_has f
 have hat := fun i h => map_at f i h (.lit (.int .i64 0))
 rw [hD] at hM hhas hat
 have hM4 : Hid (W.ownsMap Tryz.prog 9 (plainElem (H := Nat) Tryz.prog 3) B 186 D) := hM
 have hkey : Hid (keyOf Tryz.prog 9 (.string f) = some (.string f.data.toList)) := key_str f hfz
 have q4 := hbk.map
 have hbk' : Hid (Book W b B) := hbk
 clear hD hM hbk
 cases hrow : rowOf f with
 | none =>
  rw [hrow] at hhas
  have hhas' : Maps.has D (.string f.data.toList) = false := hhas
  have hfin : Hid (canN f = f) := by unfold Hid canN; rw [hrow]
  clear hhas hat
  go_enter Tryz.func84, Tryz.ntmps84
  go_wp2_with (at_lookup; refine wpList_lookup_own_ok_int _ rfl _ _ 131 rfl 9 3 .i64 (Maps.string_keyed Tryz.underlying9) Tryz.underlying131 Tryz.underlying3 (Tryz.zeroValue3 _) B 186 D rfl hM4.out _ _ rfl hkey.out ?_; intro c hatc hwc)
  go_ret
  exact ⟨by rw [hfin.out]; rfl, rfl⟩
 | some i =>
  rw [hrow] at hhas
  have hhas' : Maps.has D (.string f.data.toList) = true := hhas
  have hati := hat i hrow
  have hati' : Hid (D.atKey (.string f.data.toList) (.lit (.int .i64 0)) = .lit (.int .i64 (i.1 : Int))) := hati
  have hfin : Hid (canN f = (rowL i).1) := by unfold Hid canN; rw [hrow]
  obtain ⟨c0, _, _⟩ := hbk'.out.cells i
  have i0 : (0 : Int) ≤ (i.1 : Int) := Int.natCast_nonneg _
  have i1 : (i.1 : Int) < 62 := by have := i.2; omega
  clear hhas hat hati
  go_enter Tryz.func84, Tryz.ntmps84
  go_wp2_with (at_lookup; refine wpList_lookup_own_ok_int _ rfl _ _ 131 rfl 9 3 .i64 (Maps.string_keyed Tryz.underlying9) Tryz.underlying131 Tryz.underlying3 (Tryz.zeroValue3 _) B 186 D rfl hM4.out _ _ rfl hkey.out ?_; intro c hatc hwc; obtain rfl : c = (i.1 : Int) := (by rw [hati'.out] at hatc; injection hatc with hatc; injection hatc with _ hatc; exact hatc.symm))
  go_ret
  exact ⟨by rw [hfin.out]; rfl, rfl⟩
end Go.Proofs.YtkknenmpdimdbaaGreatDoor

namespace Go.Proofs.YtkknenmpdimdbaaGreatDoor
theorem info_u8 : (Tryz.prog.info? 5).map (fun i => (i.zero, i.size, i.bytes)) = some (some (.int .u8 0), 1, 1) := by kernel_rfl
end Go.Proofs.YtkknenmpdimdbaaGreatDoor

namespace Go.Proofs.YtkknenmpdimdbaaGreatDoor
open Go.RowKit
def isL (b : UInt8) : Bool := decide (97 ≤ (b.toNat : Int)) && decide ((b.toNat : Int) ≤ 122)
def isD (b : UInt8) : Bool := decide (48 ≤ (b.toNat : Int)) && decide ((b.toNat : Int) ≤ 57)
def isK (b : UInt8) : Bool := isL b || isD b || decide ((b.toNat : Int) = 45)
theorem letter_any (b : UInt8) (w : World) : Calls Tryz.prog 112 #[.int .u8 (b.toNat : Int)] w fun e w' => e = .returned (.bool (isL b)) ∧ w' = w := by
 unfold isL
 by_cases h1 : (97 : Int) ≤ b.toNat
 ·by_cases h2 : (b.toNat : Int) ≤ 122
  ·go_enter Tryz.func112, Tryz.ntmps112
   go_wp2_with fail
   go_ret
   exact ⟨ret_bool (by simp [h1, h2]), rfl⟩
  ·go_enter Tryz.func112, Tryz.ntmps112
   go_wp2_with fail
   go_ret
   exact ⟨ret_bool (by simp [h2]), rfl⟩
 ·go_enter Tryz.func112, Tryz.ntmps112
  go_wp2_with fail
  go_ret
  exact ⟨ret_bool (by simp; omega), rfl⟩
theorem digit_any (b : UInt8) (w : World) : Calls Tryz.prog 143 #[.int .u8 (b.toNat : Int)] w fun e w' => e = .returned (.bool (isD b)) ∧ w' = w := by
 unfold isD
 by_cases h1 : (48 : Int) ≤ b.toNat
 ·by_cases h2 : (b.toNat : Int) ≤ 57
  ·go_enter Tryz.func143, Tryz.ntmps143
   go_wp2_with fail
   go_ret
   exact ⟨ret_bool (by simp [h1, h2]), rfl⟩
  ·go_enter Tryz.func143, Tryz.ntmps143
   go_wp2_with fail
   go_ret
   exact ⟨ret_bool (by simp [h2]), rfl⟩
 ·go_enter Tryz.func143, Tryz.ntmps143
  go_wp2_with fail
  go_ret
  exact ⟨ret_bool (by simp; omega), rfl⟩
set_option maxHeartbeats 1000000 in
theorem key_any (b : UInt8) (w : World) : Calls Tryz.prog 114 #[.int .u8 (b.toNat : Int)] w fun e w' => e = .returned (.bool (isK b)) ∧ w' = w := by
 have hl : Hid (Calls Tryz.prog 112 #[.int .u8 (b.toNat : Int)] w fun e w' => e = .returned (.bool (isL b)) ∧ w' = w) := letter_any b w
 have hd : Hid (Calls Tryz.prog 143 #[.int .u8 (b.toNat : Int)] w fun e w' => e = .returned (.bool (isD b)) ∧ w' = w) := digit_any b w
 unfold isK
 generalize isL b = x at *
 generalize isD b = y at *
 cases x with
 | true =>
  go_enter Tryz.func114, Tryz.ntmps114
  go_wp2_with fail
  refine hl.out.mono ?_
  rintro e W1 ⟨rfl, rfl⟩
  go_wp2_with fail
  go_ret
  exact ⟨rfl, rfl⟩
 | false =>
  cases y with
  | true =>
   go_enter Tryz.func114, Tryz.ntmps114
   go_wp2_with fail
   refine hl.out.mono ?_
   rintro e W1 ⟨rfl, rfl⟩
   go_wp2_with fail
   refine hd.out.mono ?_
   rintro e W1 ⟨rfl, rfl⟩
   go_wp2_with fail
   go_ret
   exact ⟨rfl, rfl⟩
  | false =>
   go_enter Tryz.func114, Tryz.ntmps114
   go_wp2_with fail
   refine hl.out.mono ?_
   rintro e W1 ⟨rfl, rfl⟩
   go_wp2_with fail
   refine hd.out.mono ?_
   rintro e W1 ⟨rfl, rfl⟩
   by_cases h : (b.toNat : Int) = 45
   ·go_wp2_with fail
    go_ret
    exact ⟨ret_bool (by simp [h]), rfl⟩
   ·go_wp2_with fail
    go_ret
    exact ⟨ret_bool (by simp [h]), rfl⟩
def runE (p : UInt8 → Bool) (l : List UInt8) (b : Nat) : Nat := b + ((l.drop b).takeWhile p).length
theorem runE_on (p : UInt8 → Bool) (l : List UInt8) (b : Nat) (h : b < l.length) (hp : p l[b] = true) : runE p l b = runE p l (b + 1) := by
 unfold runE
 rw [List.drop_eq_getElem_cons h, List.takeWhile_cons, if_pos hp, List.length_cons]
 omega
theorem runE_off (p : UInt8 → Bool) (l : List UInt8) (b : Nat) (h : b < l.length) (hp : p l[b] = false) : runE p l b = b := by
 unfold runE
 rw [List.drop_eq_getElem_cons h, List.takeWhile_cons, if_neg (by rw [hp]; decide)]
 rfl
theorem runE_end (p : UInt8 → Bool) (l : List UInt8) (b : Nat) (h : l.length ≤ b) : runE p l b = b := by
 unfold runE
 rw [List.drop_eq_nil_of_le h]
 rfl
set_option maxHeartbeats 400000 in
theorem runEnd_any (p : UInt8 → Bool) (q : FuncId) (hent : ∀ args W, (callFunc q args).run Tryz.prog W = .ok (.enter q args) W)
  (hq : ∀ (b : UInt8) (w : World), Calls Tryz.prog q #[.int .u8 (b.toNat : Int)] w fun e w' => e = .returned (.bool (p b)) ∧ w' = w)
  (s : ByteArray) (b : Nat) (w : World) (hb : b ≤ s.size) (hs : s.size ≤ 140737488355328) :
  Calls Tryz.prog 113 #[.string s, .int .i64 (b : Int), .func (.func q) #[] #[]] w fun e w' => e = .returned (.int .i64 (runE p s.data.toList b : Int)) ∧ w' = w := by
 have hq' : ∀ b w, Hid (Calls Tryz.prog q #[.int .u8 (UInt8.toNat b : Int)] w fun e w' => e = .returned (.bool (p b)) ∧ w' = w) := hq
 clear hq
 obtain ⟨r, hr⟩ : ∃ r, runE p s.data.toList b = r := ⟨_, rfl⟩
 have hL : Hid (s.data.toList.length = s.size) := size_l s
 rw [hr]
 have hr' : Hid (runE p s.data.toList b = r) := hr
 clear hr
 go_enter Tryz.func113, Tryz.ntmps113
 go_wp2_with fail
 go_loopw [7] (fun iv wr => ∃ k : Nat, k ≤ s.size ∧ iv = .int .i64 (k : Int) ∧ Hid (wr = w) ∧ Hid (runE p s.data.toList k = r)) (fun iv _ => s.size - (intOf iv).toNat)
 case atStart => exact ⟨b, hb, rfl, rfl, hr'⟩
 case round =>
  obtain ⟨k, hk, rfl, hw, hrk⟩ := hrel
  by_cases hlt : k < s.size
  ·have hkl : k < s.data.toList.length := by rw [hL.out]; exact hlt
   have hget : s.data.toList[k] = s[k] := rfl
   have hc := hq' s[k] wr
   have hon := runE_on p s.data.toList k hkl
   have hoff := runE_off p s.data.toList k hkl
   rw [hget] at hon hoff
   have hon' : Hid (p s[k] = true → runE p s.data.toList k = runE p s.data.toList (k + 1)) := hon
   have hoff' : Hid (p s[k] = false → runE p s.data.toList k = k) := hoff
   clear hon hoff hget
   generalize hpx : p s[k] = x at *
   clear hpx
   go_wp2_with fail
   refine hc.out.mono ?_
   rintro e W1 ⟨rfl, hW1⟩
   have hw1 : Hid (W1 = w) := by unfold Hid; rw [hW1]; exact hw.out
   clear hW1 hc
   cases x with
   | true =>
    have hnx : Hid (runE p s.data.toList (k + 1) = r) := by unfold Hid; rw [← hon'.out rfl]; exact hrk.out
    have hlt' : Hid (k < s.size) := hlt
    go_wp2_with fail
    refine ⟨⟨k + 1, hlt'.out, by simp, hw1, hnx⟩, ?_⟩
    have := hlt'.out
    simp [intOf]
    omega
   | false =>
    have hfin : Hid (r = k) := by unfold Hid; rw [← hrk.out]; exact hoff'.out rfl
    go_wp2_with fail
    go_ret
    exact ⟨ret_int (by rw [hfin.out]), hw1.out⟩
  ·have hke : k = s.size := by omega
   have hfin : Hid (r = k) := by unfold Hid; rw [← hrk.out]; exact runE_end _ _ _ (by rw [hL.out]; omega)
   go_wp2_with fail
   go_ret
   exact ⟨ret_int (by rw [hfin.out]), hw.out⟩
end Go.Proofs.YtkknenmpdimdbaaGreatDoor
