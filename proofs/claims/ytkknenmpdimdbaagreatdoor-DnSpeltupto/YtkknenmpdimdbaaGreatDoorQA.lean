import Derived.Test.YtkknenmpdimdbaaGreatDoorAtBook
import Derived.Test.YtkknenmpdimdbaaGreatDoorAtIdx
import Derived.Deep.RegionHeld3
import Derived.Deep.RegionHeldLaw
import Derived.Deep.DeepCutAuto
namespace Go.Proofs.YtkknenmpdimdbaaGreatDoor
open Go.RowKit

/-- A text that names the row i. -/
def hit (f : ByteArray) (i : Fin 62) : Bool := !f.toList.isEmpty && decide (f = (rowL i).1 ∨ f = (rowL i).2.1 ∨ f = (rowL i).2.2)
def oneD (f : ByteArray) : Option (Fin 62) → DataW Nat
  | none => .map []
  | some i => .map [(.string f.data.toList, .lit (.int .i64 (i.1 : Int)))]
theorem put_one (f : ByteArray) (o : Option (Fin 62)) (i : Fin 62) : (oneD f o).put (.string f.data.toList) (.lit (.int .i64 (i.1 : Int))) = oneD f (some i) := by
  cases o with
  | none => rfl
  | some j =>
    have hs : (Lit.string f.data.toList).sameKey (.string f.data.toList) = true := by simp [Lit.sameKey]
    simp [oneD, DataW.put, hs, DataW.insert]
theorem step_one (f : ByteArray) (o : Option (Fin 62)) (i : Fin 62) (s : ByteArray) : stepD [f] i (oneD f o) s = oneD f (if ¬ s.toList = [] ∧ s = f then some i else o) := by
  have hc : Lib.containsS [f] s = true ↔ s = f := by rw [Lib.containsS_iff]; simp
  unfold stepD
  by_cases h : ¬ s.toList = [] ∧ s = f
  · rw [if_pos ⟨h.1, hc.2 h.2⟩, if_pos h, h.2, put_one]
  · rw [if_neg (fun h' => h ⟨h'.1, hc.1 h'.2⟩), if_neg h]
theorem hit_iff (f : ByteArray) (i : Fin 62) : hit f i = true ↔ (¬ f.toList = [] ∧ (f = (rowL i).1 ∨ f = (rowL i).2.1 ∨ f = (rowL i).2.2)) := by
  unfold hit
  rw [Bool.and_eq_true, Bool.not_eq_true', decide_eq_true_eq]
  constructor
  · rintro ⟨h1, h2⟩
    refine ⟨fun h => ?_, h2⟩
    rw [h] at h1
    cases h1
  · rintro ⟨h1, h2⟩
    refine ⟨?_, h2⟩
    cases hf : f.toList with
    | nil => exact absurd hf h1
    | cons x l => rfl
theorem fold_one (f : ByteArray) (o : Option (Fin 62)) (i : Fin 62) : (nms i).foldl (stepD [f] i) (oneD f o) = oneD f (if hit f i = true then some i else o) := by
  show stepD [f] i (stepD [f] i (stepD [f] i (oneD f o) (rowL i).1) (rowL i).2.1) (rowL i).2.2 = _
  rw [step_one, step_one, step_one]
  congr 1
  by_cases h : hit f i = true
  · rw [if_pos h]
    obtain ⟨h1, h2⟩ := (hit_iff f i).1 h
    by_cases e2 : (rowL i).2.2 = f
    · rw [if_pos ⟨by rw [e2]; exact h1, e2⟩]
    · rw [if_neg (fun h => e2 h.2)]
      by_cases e1 : (rowL i).2.1 = f
      · rw [if_pos ⟨by rw [e1]; exact h1, e1⟩]
      · rw [if_neg (fun h => e1 h.2)]
        have e0 : (rowL i).1 = f := by
          rcases h2 with h2 | h2 | h2
          · exact h2.symm
          · exact absurd h2.symm e1
          · exact absurd h2.symm e2
        rw [if_pos ⟨by rw [e0]; exact h1, e0⟩]
  · rw [if_neg h]
    have hn : ∀ s, s = (rowL i).1 ∨ s = (rowL i).2.1 ∨ s = (rowL i).2.2 → ¬ (¬ s.toList = [] ∧ s = f) := fun s hs h' => h ((hit_iff f i).2 ⟨by rw [← h'.2]; exact h'.1, by rw [← h'.2]; exact hs⟩)
    rw [if_neg (hn _ (Or.inr (Or.inr rfl))), if_neg (hn _ (Or.inr (Or.inl rfl))), if_neg (hn _ (Or.inl rfl))]
def lastHit (f : ByteArray) (pre : List (Fin 62)) : Option (Fin 62) := pre.foldl (fun o i => if hit f i = true then some i else o) none
theorem mapD_one (f : ByteArray) (pre : List (Fin 62)) : mapD [f] pre = oneD f (lastHit f pre) := by
  have : ∀ (l : List (Fin 62)) (o : Option (Fin 62)), l.foldl (fun D i => (nms i).foldl (stepD [f] i) D) (oneD f o) = oneD f (l.foldl (fun o i => if hit f i = true then some i else o) o) := by
    intro l
    induction l with
    | nil => intro o; rfl
    | cons i l ih => intro o; rw [List.foldl_cons, List.foldl_cons, fold_one, ih]
  exact this pre none
/-- The row that a text names. -/
def rowOf (f : ByteArray) : Option (Fin 62) := (List.finRange 62).find? (hit f)
set_option maxRecDepth 100000 in
theorem apart_rows : (List.finRange 62).all (fun i => (List.finRange 62).all (fun j => decide (i = j) || (nms i).all (fun s => s.toList.isEmpty || (nms j).all (fun t => decide (s ≠ t))))) = true := by kernel_rfl
theorem hit_unique (f : ByteArray) (i j : Fin 62) (hi : hit f i = true) (hj : hit f j = true) : i = j := by
  have h := List.all_eq_true.1 (List.all_eq_true.1 apart_rows i (List.mem_finRange i)) j (List.mem_finRange j)
  obtain ⟨h1, h2⟩ := (hit_iff f i).1 hi
  obtain ⟨_, h3⟩ := (hit_iff f j).1 hj
  rw [Bool.or_eq_true, decide_eq_true_eq] at h
  rcases h with h | h
  · exact h
  · have h4 := List.all_eq_true.1 h f (by unfold nms; simpa using h2)
    rw [Bool.or_eq_true] at h4
    rcases h4 with h4 | h4
    · exact absurd (by simpa using h4) h1
    · have h5 := List.all_eq_true.1 h4 f (by unfold nms; simpa using h3)
      exact absurd rfl (of_decide_eq_true h5)
theorem last_find (f : ByteArray) : lastHit f (upF 62) = rowOf f := by
  have e : upF 62 = List.finRange 62 := by unfold upF; rw [List.take_of_length_le (by simp)]
  have key : ∀ (l : List (Fin 62)) (o : Option (Fin 62)), (∀ i, o = some i → hit f i = true) → l.foldl (fun o i => if hit f i = true then some i else o) o = (match o with | some i => some i | none => l.find? (hit f)) := by
    intro l
    induction l with
    | nil => intro o _; cases o <;> rfl
    | cons i l ih =>
      intro o ho
      rw [List.foldl_cons]
      by_cases h : hit f i = true
      · rw [if_pos h, ih (some i) (fun j hj => by injection hj with hj; rw [← hj]; exact h)]
        cases o with
        | none => show some i = List.find? (hit f) (i :: l); rw [List.find?_cons_of_pos h]
        | some j => show some i = some j; rw [hit_unique f i j h (ho j rfl)]
      · rw [if_neg h, ih o ho]
        cases o with
        | none => show List.find? (hit f) l = List.find? (hit f) (i :: l); rw [List.find?_cons_of_neg h]
        | some j => rfl
  unfold lastHit rowOf
  rw [e, key _ none (fun i hi => by cases hi)]
/-- What the map of one asked text says. -/
theorem map_has (f : ByteArray) : Maps.has (mapD [f] (upF 62)) (.string f.data.toList) = (rowOf f).isSome := by
  rw [mapD_one, last_find]
  cases rowOf f with
  | none => rfl
  | some i => simp [oneD, Maps.has, Lit.sameKey]
theorem map_at (f : ByteArray) (i : Fin 62) (h : rowOf f = some i) (z : DataW Nat) : (mapD [f] (upF 62)).atKey (.string f.data.toList) z = .lit (.int .i64 (i.1 : Int)) := by
  rw [mapD_one, last_find, h]
  simp [oneD, DataW.atKey, Lit.sameKey]
end Go.Proofs.YtkknenmpdimdbaaGreatDoor

namespace Go.Proofs.YtkknenmpdimdbaaGreatDoor
open Go.RowKit

def SUP : List Int := [0, 0, 0, 0, 2, 2, 0, 2, 2, 2, 0, 2, 2, 2, 0, 0, 0, 0, 0, 0, 0, 0, 0, 0, 16, 0, 3, 3, 3, 3, 0, 2, 2, 2, 0, 0, 8, 9, 11, 12, 0, 0, 0, 0, 0, 0, 0, 0, 0, 0, 0, 0, 0, 0, 0, 0, 0, 0, 0, 0, 0, 0]
def SYN : List Int := [11, 10, 1, 10, 1, 1, 1, 1, 1, 1, 1, 1, 1, 1, 1, 1, 13, 1, 1, 1, 6, 6, 5, 5, 13, 1, 10, 10, 10, 10, 9, 1, 1, 1, 1, 1, 1, 1, 1, 1, 1, 3, 1, 10, 6, 10, 3, 6, 6, 1, 1, 7, 7, 4, 4, 2, 12, 12, 10, 10, 8, 14]
def USG : List Int := [0, 0, 0, 0, 0, 0, 0, 0, 0, 0, 0, 0, 0, 0, 0, 0, 0, 0, 0, 0, 0, 0, 0, 0, 0, 0, 0, 0, 0, 0, 0, 0, 0, 0, 0, 0, 0, 0, 0, 0, 0, 0, 0, 0, 0, 0, 0, 0, 0, 0, 0, 0, 0, 0, 0, 0, 1, 1, 1, 1, 1, 0]
def KND : List (List Int) := [[-1, 11, 0], [-1, 10, 0], [-1, 1, 0], [-1, 10, 0], [2, 1, 0], [2, 1, 0], [-1, 1, 0], [2, 1, 0], [2, 1, 0], [2, 1, 0], [-1, 1, 0], [2, 1, 0], [2, 1, 0], [2, 1, 0], [-1, 1, 0], [-1, 1, 0], [-1, 13, 0], [-1, 1, 0], [-1, 1, 0], [-1, 1, 0], [-1, 6, 0], [-1, 6, 0], [-1, 5, 0], [-1, 5, 0], [16, 13, 0], [-1, 1, 0], [3, 10, 0], [3, 10, 0], [3, 10, 0], [3, 10, 0], [-1, 9, 0], [2, 1, 0], [2, 1, 0], [2, 1, 0], [-1, 1, 0], [-1, 1, 0], [8, 1, 0], [9, 1, 0], [11, 1, 0], [12, 1, 0], [-1, 1, 0], [-1, 3, 0], [-1, 1, 0], [-1, 10, 0], [-1, 6, 0], [-1, 10, 0], [-1, 3, 0], [-1, 6, 0], [-1, 6, 0], [-1, 1, 0], [-1, 1, 0], [-1, 7, 0], [-1, 7, 0], [-1, 4, 0], [-1, 4, 0], [-1, 2, 0], [-1, 12, 1], [-1, 12, 1], [-1, 10, 1], [-1, 10, 1], [-1, 8, 1], [-1, 14, 0]]
theorem num_fit : (List.finRange 62).all (fun i => decide (0 ≤ SUP.getD i.1 0 ∧ SUP.getD i.1 0 < 62 ∧ (KND.getD i.1 []).getD 0 0 = (if SUP.getD i.1 0 = 0 then -1 else SUP.getD i.1 0) ∧ (KND.getD i.1 []).getD 1 0 = SYN.getD i.1 0 ∧ (KND.getD i.1 []).getD 2 0 = USG.getD i.1 0)) = true := by kernel_rfl
theorem num_at (i : Fin 62) : 0 ≤ SUP.getD i.1 0 ∧ SUP.getD i.1 0 < 62 ∧ (KND.getD i.1 []).getD 0 0 = (if SUP.getD i.1 0 = 0 then -1 else SUP.getD i.1 0) ∧ (KND.getD i.1 []).getD 1 0 = SYN.getD i.1 0 ∧ (KND.getD i.1 []).getD 2 0 = USG.getD i.1 0 :=
  of_decide_eq_true (List.all_eq_true.1 num_fit i (List.mem_finRange i))
/-- The number of the row above, and its name. -/
def supI (i : Fin 62) : Nat := (SUP.getD i.1 0).toNat
theorem supI_lt (i : Fin 62) : supI i < 62 := by
  have := num_at i
  unfold supI
  omega
theorem supI_eq (i : Fin 62) : SUP.getD i.1 0 = (supI i : Int) := by
  have := num_at i
  unfold supI
  omega
def supN (i : Fin 62) : ByteArray := if supI i = 0 then ⟨#[]⟩ else (rowL ⟨supI i, supI_lt i⟩).1
/-- What a row is told as. -/
def RowIs (W : World) (B : Nat) (i : Fin 62) (v : Value) : Prop :=
  ∃ al, v = .agg #[.string (rowL i).1, al, .string (rowL i).2.2, .string (supN i), .int .i64 (SYN.getD i.1 0), .int .i64 (USG.getD i.1 0)] ∧
    (((rowL i).2.1.toList = [] ∧ al = .slice none 0 0) ∨ (¬ (rowL i).2.1.toList = [] ∧ ∃ g c, B ≤ g ∧ al = .slice (some ⟨g, 0, none⟩) 1 c ∧ W.cell? ⟨g, 0, none⟩ = some (.string (rowL i).2.1)))
end Go.Proofs.YtkknenmpdimdbaaGreatDoor

namespace Go.Proofs.YtkknenmpdimdbaaGreatDoor
open Go.RowKit

theorem bkC_full (m : Nat) : bkC m (upF 62) = (labs.flatMap lbC ++ [Value.map (some m)]).toArray := by kernel_rfl
theorem flat_at (l : List Lb) (j r : Nat) (hj : j < l.length) (hr : r < 3) : (l.flatMap lbC)[j * 3 + r]? = (lbC l[j])[r]? := by
  induction l generalizing j with
  | nil => simp at hj
  | cons m l ih =>
    have e : (m :: l).flatMap lbC = lbC m ++ l.flatMap lbC := rfl
    have h3 : (lbC m).length = 3 := rfl
    rw [e]
    cases j with
    | zero => rw [List.getElem?_append_left (by omega)]; simp
    | succ j =>
      rw [List.getElem?_append_right (by omega), h3, show (j + 1) * 3 + r - 3 = j * 3 + r by omega, ih j (by simpa using hj)]
      rfl
theorem flat_len (l : List Lb) : (l.flatMap lbC).length = l.length * 3 := by
  induction l with
  | nil => rfl
  | cons m l ih =>
    have e : (m :: l).flatMap lbC = lbC m ++ l.flatMap lbC := rfl
    rw [e, List.length_append, ih, List.length_cons]
    show 3 + _ = _
    omega
/-- A book that lies in a block. -/
def Book (W : World) (b m : Nat) : Prop := W.heap[b]? = some (.cells (bkC m (upF 62)) 133 (0, 0))
theorem Book.cells {W : World} {b m : Nat} (h : Book W b m) (i : Fin 62) : W.cell? ⟨b, i.1 * 3, none⟩ = some (.string (rowL i).1) ∧ W.cell? ⟨b, i.1 * 3 + 1, none⟩ = some (.string (rowL i).2.1) ∧ W.cell? ⟨b, i.1 * 3 + 2, none⟩ = some (.string (rowL i).2.2) := by
  have hl : i.1 < labs.length := by rw [labs_len]; exact i.2
  have key : ∀ r, r < 3 → W.cell? ⟨b, i.1 * 3 + r, none⟩ = (lbC (rowL i))[r]? := fun r hr => by
    rw [cell_of_row W b _ _ _ _ h, bkC_full]
    rw [List.getElem?_toArray, List.getElem?_append_left (by rw [flat_len, labs_len]; have := i.2; omega), flat_at labs i.1 r hl hr]
    rfl
  exact ⟨key 0 (by omega), key 1 (by omega), key 2 (by omega)⟩
theorem Book.map {W : World} {b m : Nat} (h : Book W b m) : W.cell? ⟨b, 186, none⟩ = some (.map (some m)) := by
  rw [cell_of_row W b _ _ _ _ h, bkC_last]
theorem Book.lt {W : World} {b m : Nat} (h : Book W b m) : b < W.heap.size := (Array.getElem?_eq_some_iff.1 h).1
theorem Book.below {W W' : World} {b m : Nat} (h : Book W b m) (hb : Below W.heap.size W W') : Book W' b m := (hb.block b h.lt).trans h

end Go.Proofs.YtkknenmpdimdbaaGreatDoor
