import Derived.Test.YtkknenmpdimdbaaDoorAtBook
namespace Go.Proofs.YtkknenmpdimdbaaDoor
open Go.RowKit

/-- A text that names the row i. -/
def hit (f : ByteArray) (i : Fin 62) : Bool := !f.toList.isEmpty && decide (f = (rowL i).1 ∨ f = (rowL i).2.1 ∨ f = (rowL i).2.2)
def oneD (f : ByteArray) : Option (Fin 62) → DataW Nat
  | none => .map []
  | some i => .map [(.string f.data.toList, .lit (.int .i64 (i.1 : Int)))]
theorem put_one (f : ByteArray) (o : Option (Fin 62)) (i : Fin 62) : (oneD f o).put (.string f.data.toList) (.lit (.int .i64 (i.1 : Int))) = oneD f (some i) := by
  cases o with
  | none => rfl
  | some j =>
    have hs : (Lit.string f.data.toList).sameKey (.string f.data.toList) = true := by simp [Lit.sameKey]
    simp [oneD, DataW.put, hs, DataW.insert]
theorem step_one (f : ByteArray) (o : Option (Fin 62)) (i : Fin 62) (s : ByteArray) : stepD [f] i (oneD f o) s = oneD f (if ¬ s.toList = [] ∧ s = f then some i else o) := by
  have hc : Lib.containsS [f] s = true ↔ s = f := by rw [Lib.containsS_iff]; simp
  unfold stepD
  by_cases h : ¬ s.toList = [] ∧ s = f
  · rw [if_pos ⟨h.1, hc.2 h.2⟩, if_pos h, h.2, put_one]
  · rw [if_neg (fun h' => h ⟨h'.1, hc.1 h'.2⟩), if_neg h]
theorem hit_iff (f : ByteArray) (i : Fin 62) : hit f i = true ↔ (¬ f.toList = [] ∧ (f = (rowL i).1 ∨ f = (rowL i).2.1 ∨ f = (rowL i).2.2)) := by
  unfold hit
  rw [Bool.and_eq_true, Bool.not_eq_true', decide_eq_true_eq]
  constructor
  · rintro ⟨h1, h2⟩
    refine ⟨fun h => ?_, h2⟩
    rw [h] at h1
    cases h1
  · rintro ⟨h1, h2⟩
    refine ⟨?_, h2⟩
    cases hf : f.toList with
    | nil => exact absurd hf h1
    | cons x l => rfl
theorem fold_one (f : ByteArray) (o : Option (Fin 62)) (i : Fin 62) : (nms i).foldl (stepD [f] i) (oneD f o) = oneD f (if hit f i = true then some i else o) := by
  show stepD [f] i (stepD [f] i (stepD [f] i (oneD f o) (rowL i).1) (rowL i).2.1) (rowL i).2.2 = _
  rw [step_one, step_one, step_one]
  congr 1
  by_cases h : hit f i = true
  · rw [if_pos h]
    obtain ⟨h1, h2⟩ := (hit_iff f i).1 h
    by_cases e2 : (rowL i).2.2 = f
    · rw [if_pos ⟨by rw [e2]; exact h1, e2⟩]
    · rw [if_neg (fun h => e2 h.2)]
      by_cases e1 : (rowL i).2.1 = f
      · rw [if_pos ⟨by rw [e1]; exact h1, e1⟩]
      · rw [if_neg (fun h => e1 h.2)]
        have e0 : (rowL i).1 = f := by
          rcases h2 with h2 | h2 | h2
          · exact h2.symm
          · exact absurd h2.symm e1
          · exact absurd h2.symm e2
        rw [if_pos ⟨by rw [e0]; exact h1, e0⟩]
  · rw [if_neg h]
    have hn : ∀ s, s = (rowL i).1 ∨ s = (rowL i).2.1 ∨ s = (rowL i).2.2 → ¬ (¬ s.toList = [] ∧ s = f) := fun s hs h' => h ((hit_iff f i).2 ⟨by rw [← h'.2]; exact h'.1, by rw [← h'.2]; exact hs⟩)
    rw [if_neg (hn _ (Or.inr (Or.inr rfl))), if_neg (hn _ (Or.inr (Or.inl rfl))), if_neg (hn _ (Or.inl rfl))]
def lastHit (f : ByteArray) (pre : List (Fin 62)) : Option (Fin 62) := pre.foldl (fun o i => if hit f i = true then some i else o) none
theorem mapD_one (f : ByteArray) (pre : List (Fin 62)) : mapD [f] pre = oneD f (lastHit f pre) := by
  have : ∀ (l : List (Fin 62)) (o : Option (Fin 62)), l.foldl (fun D i => (nms i).foldl (stepD [f] i) D) (oneD f o) = oneD f (l.foldl (fun o i => if hit f i = true then some i else o) o) := by
    intro l
    induction l with
    | nil => intro o; rfl
    | cons i l ih => intro o; rw [List.foldl_cons, List.foldl_cons, fold_one, ih]
  exact this pre none
/-- The row that a text names. -/
def rowOf (f : ByteArray) : Option (Fin 62) := (List.finRange 62).find? (hit f)
set_option maxRecDepth 100000 in
theorem apart_rows : (List.finRange 62).all (fun i => (List.finRange 62).all (fun j => decide (i = j) || (nms i).all (fun s => s.toList.isEmpty || (nms j).all (fun t => decide (s ≠ t))))) = true := by kernel_rfl
theorem hit_unique (f : ByteArray) (i j : Fin 62) (hi : hit f i = true) (hj : hit f j = true) : i = j := by
  have h := List.all_eq_true.1 (List.all_eq_true.1 apart_rows i (List.mem_finRange i)) j (List.mem_finRange j)
  obtain ⟨h1, h2⟩ := (hit_iff f i).1 hi
  obtain ⟨_, h3⟩ := (hit_iff f j).1 hj
  rw [Bool.or_eq_true, decide_eq_true_eq] at h
  rcases h with h | h
  · exact h
  · have h4 := List.all_eq_true.1 h f (by unfold nms; simpa using h2)
    rw [Bool.or_eq_true] at h4
    rcases h4 with h4 | h4
    · exact absurd (by simpa using h4) h1
    · have h5 := List.all_eq_true.1 h4 f (by unfold nms; simpa using h3)
      exact absurd rfl (of_decide_eq_true h5)
theorem last_find (f : ByteArray) : lastHit f (upF 62) = rowOf f := by
  have e : upF 62 = List.finRange 62 := by unfold upF; rw [List.take_of_length_le (by simp)]
  have key : ∀ (l : List (Fin 62)) (o : Option (Fin 62)), (∀ i, o = some i → hit f i = true) → l.foldl (fun o i => if hit f i = true then some i else o) o = (match o with | some i => some i | none => l.find? (hit f)) := by
    intro l
    induction l with
    | nil => intro o _; cases o <;> rfl
    | cons i l ih =>
      intro o ho
      rw [List.foldl_cons]
      by_cases h : hit f i = true
      · rw [if_pos h, ih (some i) (fun j hj => by injection hj with hj; rw [← hj]; exact h)]
        cases o with
        | none => show some i = List.find? (hit f) (i :: l); rw [List.find?_cons_of_pos h]
        | some j => show some i = some j; rw [hit_unique f i j h (ho j rfl)]
      · rw [if_neg h, ih o ho]
        cases o with
        | none => show List.find? (hit f) l = List.find? (hit f) (i :: l); rw [List.find?_cons_of_neg h]
        | some j => rfl
  unfold lastHit rowOf
  rw [e, key _ none (fun i hi => by cases hi)]
/-- What the map of one asked text says. -/
theorem map_has (f : ByteArray) : Maps.has (mapD [f] (upF 62)) (.string f.data.toList) = (rowOf f).isSome := by
  rw [mapD_one, last_find]
  cases rowOf f with
  | none => rfl
  | some i => simp [oneD, Maps.has, Lit.sameKey]
theorem map_at (f : ByteArray) (i : Fin 62) (h : rowOf f = some i) (z : DataW Nat) : (mapD [f] (upF 62)).atKey (.string f.data.toList) z = .lit (.int .i64 (i.1 : Int)) := by
  rw [mapD_one, last_find, h]
  simp [oneD, DataW.atKey, Lit.sameKey]
end Go.Proofs.YtkknenmpdimdbaaDoor
