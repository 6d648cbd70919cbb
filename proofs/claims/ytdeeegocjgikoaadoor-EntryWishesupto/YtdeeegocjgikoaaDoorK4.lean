import Derived.Test.YtdeeegocjgikoaaDoorAtBook
import Derived.Test.YtdeeegocjgikoaaDoorAtIdx
import Derived.Deep.RegionHeld3
import Derived.Deep.RegionHeldLaw
import Derived.Deep.DeepCutAuto
namespace Go.Proofs.YtdeeegocjgikoaaDoor
open Go.RowKit

/-- A text that names the row i. -/
def hit (f : ByteArray) (i : Fin 62) : Bool := !f.toList.isEmpty && decide (f = (rowL i).1 ∨ f = (rowL i).2.1 ∨ f = (rowL i).2.2)
def oneD (f : ByteArray) : Option (Fin 62) → DataW Nat
  | none => .map []
  | some i => .map [(.string f.data.toList, .lit (.int .i64 (i.1 : Int)))]
theorem put_one (f : ByteArray) (o : Option (Fin 62)) (i : Fin 62) : (oneD f o).put (.string f.data.toList) (.lit (.int .i64 (i.1 : Int))) = oneD f (some i) := by
  cases o with
  | none => rfl
  | some j =>
    have hs : (Lit.string f.data.toList).sameKey (.string f.data.toList) = true := by simp [Lit.sameKey]
    simp [oneD, DataW.put, hs, DataW.insert]
theorem step_one (f : ByteArray) (o : Option (Fin 62)) (i : Fin 62) (s : ByteArray) : stepD [f] i (oneD f o) s = oneD f (if ¬ s.toList = [] ∧ s = f then some i else o) := by
  have hc : Lib.containsS [f] s = true ↔ s = f := by rw [Lib.containsS_iff]; simp
  unfold stepD
  by_cases h : ¬ s.toList = [] ∧ s = f
  · rw [if_pos ⟨h.1, hc.2 h.2⟩, if_pos h, h.2, put_one]
  · rw [if_neg (fun h' => h ⟨h'.1, hc.1 h'.2⟩), if_neg h]
theorem hit_iff (f : ByteArray) (i : Fin 62) : hit f i = true ↔ (¬ f.toList = [] ∧ (f = (rowL i).1 ∨ f = (rowL i).2.1 ∨ f = (rowL i).2.2)) := by
  unfold hit
  rw [Bool.and_eq_true, Bool.not_eq_true', decide_eq_true_eq]
  constructor
  · rintro ⟨h1, h2⟩
    refine ⟨fun h => ?_, h2⟩
    rw [h] at h1
    cases h1
  · rintro ⟨h1, h2⟩
    refine ⟨?_, h2⟩
    cases hf : f.toList with
    | nil => exact absurd hf h1
    | cons x l => rfl
theorem fold_one (f : ByteArray) (o : Option (Fin 62)) (i : Fin 62) : (nms i).foldl (stepD [f] i) (oneD f o) = oneD f (if hit f i = true then some i else o) := by
  show stepD [f] i (stepD [f] i (stepD [f] i (oneD f o) (rowL i).1) (rowL i).2.1) (rowL i).2.2 = _
  rw [step_one, step_one, step_one]
  congr 1
  by_cases h : hit f i = true
  · rw [if_pos h]
    obtain ⟨h1, h2⟩ := (hit_iff f i).1 h
    by_cases e2 : (rowL i).2.2 = f
    · rw [if_pos ⟨by rw [e2]; exact h1, e2⟩]
    · rw [if_neg (fun h => e2 h.2)]
      by_cases e1 : (rowL i).2.1 = f
      · rw [if_pos ⟨by rw [e1]; exact h1, e1⟩]
      · rw [if_neg (fun h => e1 h.2)]
        have e0 : (rowL i).1 = f := by
          rcases h2 with h2 | h2 | h2
          · exact h2.symm
          · exact absurd h2.symm e1
          · exact absurd h2.symm e2
        rw [if_pos ⟨by rw [e0]; exact h1, e0⟩]
  · rw [if_neg h]
    have hn : ∀ s, s = (rowL i).1 ∨ s = (rowL i).2.1 ∨ s = (rowL i).2.2 → ¬ (¬ s.toList = [] ∧ s = f) := fun s hs h' => h ((hit_iff f i).2 ⟨by rw [← h'.2]; exact h'.1, by rw [← h'.2]; exact hs⟩)
    rw [if_neg (hn _ (Or.inr (Or.inr rfl))), if_neg (hn _ (Or.inr (Or.inl rfl))), if_neg (hn _ (Or.inl rfl))]
def lastHit (f : ByteArray) (pre : List (Fin 62)) : Option (Fin 62) := pre.foldl (fun o i => if hit f i = true then some i else o) none
theorem mapD_one (f : ByteArray) (pre : List (Fin 62)) : mapD [f] pre = oneD f (lastHit f pre) := by
  have : ∀ (l : List (Fin 62)) (o : Option (Fin 62)), l.foldl (fun D i => (nms i).foldl (stepD [f] i) D) (oneD f o) = oneD f (l.foldl (fun o i => if hit f i = true then some i else o) o) := by
    intro l
    induction l with
    | nil => intro o; rfl
    | cons i l ih => intro o; rw [List.foldl_cons, List.foldl_cons, fold_one, ih]
  exact this pre none
/-- The row that a text names. -/
def rowOf (f : ByteArray) : Option (Fin 62) := (List.finRange 62).find? (hit f)
set_option maxRecDepth 100000 in
theorem apart_rows : (List.finRange 62).all (fun i => (List.finRange 62).all (fun j => decide (i = j) || (nms i).all (fun s => s.toList.isEmpty || (nms j).all (fun t => decide (s ≠ t))))) = true := by kernel_rfl
theorem hit_unique (f : ByteArray) (i j : Fin 62) (hi : hit f i = true) (hj : hit f j = true) : i = j := by
  have h := List.all_eq_true.1 (List.all_eq_true.1 apart_rows i (List.mem_finRange i)) j (List.mem_finRange j)
  obtain ⟨h1, h2⟩ := (hit_iff f i).1 hi
  obtain ⟨_, h3⟩ := (hit_iff f j).1 hj
  rw [Bool.or_eq_true, decide_eq_true_eq] at h
  rcases h with h | h
  · exact h
  · have h4 := List.all_eq_true.1 h f (by unfold nms; simpa using h2)
    rw [Bool.or_eq_true] at h4
    rcases h4 with h4 | h4
    · exact absurd (by simpa using h4) h1
    · have h5 := List.all_eq_true.1 h4 f (by unfold nms; simpa using h3)
      exact absurd rfl (of_decide_eq_true h5)
theorem last_find (f : ByteArray) : lastHit f (upF 62) = rowOf f := by
  have e : upF 62 = List.finRange 62 := by unfold upF; rw [List.take_of_length_le (by simp)]
  have key : ∀ (l : List (Fin 62)) (o : Option (Fin 62)), (∀ i, o = some i → hit f i = true) → l.foldl (fun o i => if hit f i = true then some i else o) o = (match o with | some i => some i | none => l.find? (hit f)) := by
    intro l
    induction l with
    | nil => intro o _; cases o <;> rfl
    | cons i l ih =>
      intro o ho
      rw [List.foldl_cons]
      by_cases h : hit f i = true
      · rw [if_pos h, ih (some i) (fun j hj => by injection hj with hj; rw [← hj]; exact h)]
        cases o with
        | none => show some i = List.find? (hit f) (i :: l); rw [List.find?_cons_of_pos h]
        | some j => show some i = some j; rw [hit_unique f i j h (ho j rfl)]
      · rw [if_neg h, ih o ho]
        cases o with
        | none => show List.find? (hit f) l = List.find? (hit f) (i :: l); rw [List.find?_cons_of_neg h]
        | some j => rfl
  unfold lastHit rowOf
  rw [e, key _ none (fun i hi => by cases hi)]
/-- What the map of one asked text says. -/
theorem map_has (f : ByteArray) : Maps.has (mapD [f] (upF 62)) (.string f.data.toList) = (rowOf f).isSome := by
  rw [mapD_one, last_find]
  cases rowOf f with
  | none => rfl
  | some i => simp [oneD, Maps.has, Lit.sameKey]
theorem map_at (f : ByteArray) (i : Fin 62) (h : rowOf f = some i) (z : DataW Nat) : (mapD [f] (upF 62)).atKey (.string f.data.toList) z = .lit (.int .i64 (i.1 : Int)) := by
  rw [mapD_one, last_find, h]
  simp [oneD, DataW.atKey, Lit.sameKey]
end Go.Proofs.YtdeeegocjgikoaaDoor

namespace Go.Proofs.YtdeeegocjgikoaaDoor
open Go.RowKit
set_option linter.unusedVariables false

/-- What a map says of one text. -/
def View (D : DataW Nat) (f : ByteArray) (o : Option (Fin 62)) : Prop :=
  Maps.IsMap D ∧ Maps.has D (.string f.data.toList) = o.isSome ∧ ∀ i, o = some i → ∀ z, D.atKey (.string f.data.toList) z = .lit (.int .i64 (i.1 : Int))
theorem str_ne_lit {s f : ByteArray} (h : ¬ s = f) : (Lit.string f.data.toList) ≠ .string s.data.toList := by
  intro e
  injection e with e
  apply h
  cases s
  cases f
  simp at e
  rw [e]
theorem view_step (zs : List ByteArray) (f : ByteArray) (hf : f ∈ zs) (i : Fin 62) (D : DataW Nat) (o : Option (Fin 62)) (h : View D f o) (s : ByteArray) : View (stepD zs i D s) f (if ¬ s.toList = [] ∧ s = f then some i else o) := by
  unfold stepD
  by_cases hs : ¬ s.toList = [] ∧ Lib.containsS zs s = true
  · rw [if_pos hs]
    by_cases e : s = f
    · subst e
      rw [if_pos ⟨hs.1, rfl⟩]
      refine ⟨h.1.put _ _, Maps.has_put_same h.1 (show WideAt.IsKeyLit (Lit.string _) from trivial) _, ?_⟩
      intro j hj z
      injection hj with hj
      subst hj
      exact Maps.atKey_put_same h.1 (show WideAt.IsKeyLit (Lit.string _) from trivial) _ _
    · rw [if_neg (fun q => e q.2)]
      refine ⟨h.1.put _ _, ?_, ?_⟩
      · rw [Maps.has_put_other (str_ne_lit e)]; exact h.2.1
      · intro j hj z
        rw [Maps.atKey_put_other (str_ne_lit e)]
        exact h.2.2 j hj z
  · rw [if_neg hs, if_neg]
    · exact h
    · rintro ⟨h1, rfl⟩
      exact hs ⟨h1, (Lib.containsS_iff _ _).2 hf⟩
theorem view_row (zs : List ByteArray) (f : ByteArray) (hf : f ∈ zs) (i : Fin 62) (D : DataW Nat) (o : Option (Fin 62)) (h : View D f o) : View ((nms i).foldl (stepD zs i) D) f (if hit f i = true then some i else o) := by
  have h1 := view_step zs f hf i D o h (rowL i).1
  have h2 := view_step zs f hf i _ _ h1 (rowL i).2.1
  have h3 := view_step zs f hf i _ _ h2 (rowL i).2.2
  have e : (nms i).foldl (stepD zs i) D = stepD zs i (stepD zs i (stepD zs i D (rowL i).1) (rowL i).2.1) (rowL i).2.2 := rfl
  rw [e]
  have ho : (if hit f i = true then some i else o) = (if ¬ (rowL i).2.2.toList = [] ∧ (rowL i).2.2 = f then some i else if ¬ (rowL i).2.1.toList = [] ∧ (rowL i).2.1 = f then some i else if ¬ (rowL i).1.toList = [] ∧ (rowL i).1 = f then some i else o) := by
    by_cases hh : hit f i = true
    · rw [if_pos hh]
      obtain ⟨n0, q⟩ := (hit_iff f i).1 hh
      by_cases a3 : ¬ (rowL i).2.2.toList = [] ∧ (rowL i).2.2 = f
      · rw [if_pos a3]
      · rw [if_neg a3]
        by_cases a2 : ¬ (rowL i).2.1.toList = [] ∧ (rowL i).2.1 = f
        · rw [if_pos a2]
        · rw [if_neg a2]
          by_cases a1 : ¬ (rowL i).1.toList = [] ∧ (rowL i).1 = f
          · rw [if_pos a1]
          · exfalso
            rcases q with q | q | q
            · exact a1 ⟨by rw [← q]; exact n0, q.symm⟩
            · exact a2 ⟨by rw [← q]; exact n0, q.symm⟩
            · exact a3 ⟨by rw [← q]; exact n0, q.symm⟩
    · rw [if_neg hh, if_neg, if_neg, if_neg]
      · rintro ⟨n0, q⟩; exact hh ((hit_iff f i).2 ⟨by rw [← q]; exact n0, Or.inl q.symm⟩)
      · rintro ⟨n0, q⟩; exact hh ((hit_iff f i).2 ⟨by rw [← q]; exact n0, Or.inr (Or.inl q.symm)⟩)
      · rintro ⟨n0, q⟩; exact hh ((hit_iff f i).2 ⟨by rw [← q]; exact n0, Or.inr (Or.inr q.symm)⟩)
  rw [ho]
  exact h3
theorem view_fold (zs : List ByteArray) (f : ByteArray) (hf : f ∈ zs) (pre : List (Fin 62)) : ∀ (D : DataW Nat) (o : Option (Fin 62)), View D f o → View (pre.foldl (fun D i => (nms i).foldl (stepD zs i) D) D) f (pre.foldl (fun o i => if hit f i = true then some i else o) o) := by
  induction pre with
  | nil => intro D o h; exact h
  | cons i pre ih => intro D o h; exact ih _ _ (view_row zs f hf i D o h)
/-- What the map of some asked texts says of one of them. -/
theorem view_all (zs : List ByteArray) (f : ByteArray) (hf : f ∈ zs) : View (mapD zs (upF 62)) f (rowOf f) := by
  have h := view_fold zs f hf (upF 62) (.map []) none ⟨⟨[], rfl⟩, rfl, fun i hi => by cases hi⟩
  rw [← last_find]
  exact h
end Go.Proofs.YtdeeegocjgikoaaDoor

namespace Go.Proofs.YtdeeegocjgikoaaDoor
open Go.RowKit

def SUP : List Int := [0, 0, 0, 0, 2, 2, 0, 2, 2, 2, 0, 2, 2, 2, 0, 0, 0, 0, 0, 0, 0, 0, 0, 0, 16, 0, 3, 3, 3, 3, 0, 2, 2, 2, 0, 0, 8, 9, 11, 12, 0, 0, 0, 0, 0, 0, 0, 0, 0, 0, 0, 0, 0, 0, 0, 0, 0, 0, 0, 0, 0, 0]
def SYN : List Int := [11, 10, 1, 10, 1, 1, 1, 1, 1, 1, 1, 1, 1, 1, 1, 1, 13, 1, 1, 1, 6, 6, 5, 5, 13, 1, 10, 10, 10, 10, 9, 1, 1, 1, 1, 1, 1, 1, 1, 1, 1, 3, 1, 10, 6, 10, 3, 6, 6, 1, 1, 7, 7, 4, 4, 2, 12, 12, 10, 10, 8, 14]
def USG : List Int := [0, 0, 0, 0, 0, 0, 0, 0, 0, 0, 0, 0, 0, 0, 0, 0, 0, 0, 0, 0, 0, 0, 0, 0, 0, 0, 0, 0, 0, 0, 0, 0, 0, 0, 0, 0, 0, 0, 0, 0, 0, 0, 0, 0, 0, 0, 0, 0, 0, 0, 0, 0, 0, 0, 0, 0, 1, 1, 1, 1, 1, 0]
def KND : List (List Int) := [[-1, 11, 0], [-1, 10, 0], [-1, 1, 0], [-1, 10, 0], [2, 1, 0], [2, 1, 0], [-1, 1, 0], [2, 1, 0], [2, 1, 0], [2, 1, 0], [-1, 1, 0], [2, 1, 0], [2, 1, 0], [2, 1, 0], [-1, 1, 0], [-1, 1, 0], [-1, 13, 0], [-1, 1, 0], [-1, 1, 0], [-1, 1, 0], [-1, 6, 0], [-1, 6, 0], [-1, 5, 0], [-1, 5, 0], [16, 13, 0], [-1, 1, 0], [3, 10, 0], [3, 10, 0], [3, 10, 0], [3, 10, 0], [-1, 9, 0], [2, 1, 0], [2, 1, 0], [2, 1, 0], [-1, 1, 0], [-1, 1, 0], [8, 1, 0], [9, 1, 0], [11, 1, 0], [12, 1, 0], [-1, 1, 0], [-1, 3, 0], [-1, 1, 0], [-1, 10, 0], [-1, 6, 0], [-1, 10, 0], [-1, 3, 0], [-1, 6, 0], [-1, 6, 0], [-1, 1, 0], [-1, 1, 0], [-1, 7, 0], [-1, 7, 0], [-1, 4, 0], [-1, 4, 0], [-1, 2, 0], [-1, 12, 1], [-1, 12, 1], [-1, 10, 1], [-1, 10, 1], [-1, 8, 1], [-1, 14, 0]]
/-- The tables of numbers, as they lie. -/
structure NumTab (W : World) : Prop where
  sup : ∀ i, i < 62 → W.cell? ⟨0, i, none⟩ = some (.int .i64 (SUP.getD i 0))
  syn : ∀ i, i < 62 → W.cell? ⟨2, i, none⟩ = some (.int .i64 (SYN.getD i 0))
  usg : ∀ i, i < 62 → W.cell? ⟨3, i, none⟩ = some (.int .i64 (USG.getD i 0))
  knd : ∀ i c, i < 62 → c < 3 → W.cell? ⟨1, i * 3 + c, none⟩ = some (.int .i64 ((KND.getD i []).getD c 0))
theorem NumTab.below {w w' : World} (h : NumTab w) (hb : Below w.heap.size w w') : NumTab w' :=
  ⟨fun i hi => by rw [hb.cell (World.block_lt_of_cell? w _ (h.sup i hi))]; exact h.sup i hi,
   fun i hi => by rw [hb.cell (World.block_lt_of_cell? w _ (h.syn i hi))]; exact h.syn i hi,
   fun i hi => by rw [hb.cell (World.block_lt_of_cell? w _ (h.usg i hi))]; exact h.usg i hi,
   fun i c hi hc => by rw [hb.cell (World.block_lt_of_cell? w _ (h.knd i c hi hc))]; exact h.knd i c hi hc⟩
/-- The program's own tables alone. -/
structure NumT3 (W : World) : Prop where
  sup : ∀ i, i < 62 → W.cell? ⟨0, i, none⟩ = some (.int .i64 (SUP.getD i 0))
  syn : ∀ i, i < 62 → W.cell? ⟨2, i, none⟩ = some (.int .i64 (SYN.getD i 0))
  usg : ∀ i, i < 62 → W.cell? ⟨3, i, none⟩ = some (.int .i64 (USG.getD i 0))
theorem NumT3.below {w w' : World} (h : NumT3 w) (hb : Below w.heap.size w w') : NumT3 w' :=
  ⟨fun i hi => by rw [hb.cell (World.block_lt_of_cell? w _ (h.sup i hi))]; exact h.sup i hi,
   fun i hi => by rw [hb.cell (World.block_lt_of_cell? w _ (h.syn i hi))]; exact h.syn i hi,
   fun i hi => by rw [hb.cell (World.block_lt_of_cell? w _ (h.usg i hi))]; exact h.usg i hi⟩
theorem NumTab.t3 {w : World} (h : NumTab w) : NumT3 w := ⟨h.sup, h.syn, h.usg⟩
theorem num_fit : (List.finRange 62).all (fun i => decide (0 ≤ SUP.getD i.1 0 ∧ SUP.getD i.1 0 < 62 ∧ (KND.getD i.1 []).getD 0 0 = (if SUP.getD i.1 0 = 0 then -1 else SUP.getD i.1 0) ∧ (KND.getD i.1 []).getD 1 0 = SYN.getD i.1 0 ∧ (KND.getD i.1 []).getD 2 0 = USG.getD i.1 0)) = true := by kernel_rfl
theorem num_at (i : Fin 62) : 0 ≤ SUP.getD i.1 0 ∧ SUP.getD i.1 0 < 62 ∧ (KND.getD i.1 []).getD 0 0 = (if SUP.getD i.1 0 = 0 then -1 else SUP.getD i.1 0) ∧ (KND.getD i.1 []).getD 1 0 = SYN.getD i.1 0 ∧ (KND.getD i.1 []).getD 2 0 = USG.getD i.1 0 :=
  of_decide_eq_true (List.all_eq_true.1 num_fit i (List.mem_finRange i))
/-- The number of the row above, and its name. -/
def supI (i : Fin 62) : Nat := (SUP.getD i.1 0).toNat
theorem supI_lt (i : Fin 62) : supI i < 62 := by
  have := num_at i
  unfold supI
  omega
theorem supI_eq (i : Fin 62) : SUP.getD i.1 0 = (supI i : Int) := by
  have := num_at i
  unfold supI
  omega
def supN (i : Fin 62) : ByteArray := if supI i = 0 then ⟨#[]⟩ else (rowL ⟨supI i, supI_lt i⟩).1
/-- What a row is told as. -/
def RowIs (W : World) (B : Nat) (i : Fin 62) (v : Value) : Prop :=
  ∃ al, v = .agg #[.string (rowL i).1, al, .string (rowL i).2.2, .string (supN i), .int .i64 (SYN.getD i.1 0), .int .i64 (USG.getD i.1 0)] ∧
    (((rowL i).2.1.toList = [] ∧ al = .slice none 0 0) ∨ (¬ (rowL i).2.1.toList = [] ∧ ∃ g c, B ≤ g ∧ al = .slice (some ⟨g, 0, none⟩) 1 c ∧ W.cell? ⟨g, 0, none⟩ = some (.string (rowL i).2.1)))
end Go.Proofs.YtdeeegocjgikoaaDoor

namespace Go.Proofs.YtdeeegocjgikoaaDoor
open Go.RowKit

theorem bkC_full (m : Nat) : bkC m (upF 62) = (labs.flatMap lbC ++ [Value.map (some m)]).toArray := by kernel_rfl
theorem flat_at (l : List Lb) (j r : Nat) (hj : j < l.length) (hr : r < 3) : (l.flatMap lbC)[j * 3 + r]? = (lbC l[j])[r]? := by
  induction l generalizing j with
  | nil => simp at hj
  | cons m l ih =>
    have e : (m :: l).flatMap lbC = lbC m ++ l.flatMap lbC := rfl
    have h3 : (lbC m).length = 3 := rfl
    rw [e]
    cases j with
    | zero => rw [List.getElem?_append_left (by omega)]; simp
    | succ j =>
      rw [List.getElem?_append_right (by omega), h3, show (j + 1) * 3 + r - 3 = j * 3 + r by omega, ih j (by simpa using hj)]
      rfl
theorem flat_len (l : List Lb) : (l.flatMap lbC).length = l.length * 3 := by
  induction l with
  | nil => rfl
  | cons m l ih =>
    have e : (m :: l).flatMap lbC = lbC m ++ l.flatMap lbC := rfl
    rw [e, List.length_append, ih, List.length_cons]
    show 3 + _ = _
    omega
/-- A book that lies in a block. -/
def Book (W : World) (b m : Nat) : Prop := W.heap[b]? = some (.cells (bkC m (upF 62)) 67 (0, 0))
theorem Book.cells {W : World} {b m : Nat} (h : Book W b m) (i : Fin 62) : W.cell? ⟨b, i.1 * 3, none⟩ = some (.string (rowL i).1) ∧ W.cell? ⟨b, i.1 * 3 + 1, none⟩ = some (.string (rowL i).2.1) ∧ W.cell? ⟨b, i.1 * 3 + 2, none⟩ = some (.string (rowL i).2.2) := by
  have hl : i.1 < labs.length := by rw [labs_len]; exact i.2
  have key : ∀ r, r < 3 → W.cell? ⟨b, i.1 * 3 + r, none⟩ = (lbC (rowL i))[r]? := fun r hr => by
    rw [cell_of_row W b _ _ _ _ h, bkC_full]
    rw [List.getElem?_toArray, List.getElem?_append_left (by rw [flat_len, labs_len]; have := i.2; omega), flat_at labs i.1 r hl hr]
    rfl
  exact ⟨key 0 (by omega), key 1 (by omega), key 2 (by omega)⟩
theorem Book.map {W : World} {b m : Nat} (h : Book W b m) : W.cell? ⟨b, 186, none⟩ = some (.map (some m)) := by
  rw [cell_of_row W b _ _ _ _ h, bkC_last]
theorem Book.lt {W : World} {b m : Nat} (h : Book W b m) : b < W.heap.size := (Array.getElem?_eq_some_iff.1 h).1
theorem Book.below {W W' : World} {b m : Nat} (h : Book W b m) (hb : Below W.heap.size W W') : Book W' b m := (hb.block b h.lt).trans h

/-- The row under way: its own block T, the result's block R. -/
structure Mid (w : World) (i : Fin 62) (T R : Nat) (al : Value) (sp : ByteArray) (W : World) : Prop where
  row : W.heap[T]? = some (.cells #[.string (rowL i).1, al, .string (rowL i).2.2, .string sp, .int .i64 (SYN.getD i.1 0), .int .i64 (USG.getD i.1 0)] 86 (0, 0))
  res : W.heap[R]? = some (.cells #[.string ⟨#[]⟩, .slice none 0 0, .string ⟨#[]⟩, .string ⟨#[]⟩, .int .i64 0, .int .i64 0] 86 (0, 0))
  bel : Below w.heap.size w W
  als : ((rowL i).2.1.toList = [] ∧ al = .slice none 0 0) ∨ (¬ (rowL i).2.1.toList = [] ∧ ∃ g c, w.heap.size < g ∧ g ≠ T ∧ al = .slice (some ⟨g, 0, none⟩) 1 c ∧ W.cell? ⟨g, 0, none⟩ = some (.string (rowL i).2.1))

set_option maxRecDepth 100000 in
set_option maxHeartbeats 1000000 in
theorem bookRow_any (b m : Nat) (i : Fin 62) (w : World) (hb : Book w b m) (ht : NumT3 w) :
    Calls Tryd.prog 72 #[.pointer (some ⟨b, 0, none⟩), .int .i64 (i.1 : Int)] w fun e w' => ∃ v, e = .returned v ∧ RowIs w' w.heap.size i v ∧ Below w.heap.size w w' := by
  obtain ⟨Wa, hWa⟩ : ∃ Wa, w.alloc (.cells #[.string ⟨#[]⟩, .slice none 0 0, .string ⟨#[]⟩, .string ⟨#[]⟩, .int .i64 0, .int .i64 0] 86) = Wa := ⟨_, rfl⟩
  have hBa : Below w.heap.size w Wa := by rw [← hWa]; exact (Below.refl _ _).alloc (Nat.le_refl _) _
  have hra : Wa.heap[w.heap.size]? = some (.cells #[.string ⟨#[]⟩, .slice none 0 0, .string ⟨#[]⟩, .string ⟨#[]⟩, .int .i64 0, .int .i64 0] 86 (0, 0)) := by rw [← hWa]; exact heap_alloc_last w _
  have hbA := hb.below hBa
  have htA := ht.below hBa
  obtain ⟨c0, c1, c2⟩ := hbA.cells i
  have hi := i.2
  have i0 : (0 : Int) ≤ (i.1 : Int) := Int.natCast_nonneg _
  have i1 : (i.1 : Int) < 62 := by omega
  have hH : Hid (Below w.heap.size w Wa ∧ Wa.heap[w.heap.size]? = some (.cells #[.string ⟨#[]⟩, .slice none 0 0, .string ⟨#[]⟩, .string ⟨#[]⟩, .int .i64 0, .int .i64 0] 86 (0, 0)) ∧ Book Wa b m ∧ NumT3 Wa) := ⟨hBa, hra, hbA, htA⟩
  clear hBa hra hbA htA
  go_enter Tryd.func72, Tryd.ntmps72
  go_upto_region 2 with fail
  obtain ⟨W1, hW1⟩ : ∃ W1, Wa.alloc (.cells #[.string (rowL i).1, .string (rowL i).2.1, .string (rowL i).2.2] 63) = W1 := ⟨_, rfl⟩
  rw [hW1]
  have hB1 : Below Wa.heap.size Wa W1 := by rw [← hW1]; exact (Below.refl _ _).alloc (Nat.le_refl _) _
  have hl1 : W1.heap[Wa.heap.size]? = some (.cells #[.string (rowL i).1, .string (rowL i).2.1, .string (rowL i).2.2] 63 (0, 0)) := by rw [← hW1]; exact heap_alloc_last Wa _
  have d0 := (row_cell hl1 (j := 0) (by simp)).1
  have d1 := (row_cell hl1 (j := 1) (by simp)).1
  have d2 := (row_cell hl1 (j := 2) (by simp)).1
  simp only [List.getElem_toArray, List.getElem_cons_zero, List.getElem_cons_succ] at d0 d1 d2
  have ht1 := hH.out.2.2.2.below hB1
  have s1 := ht1.syn i.1 hi
  have s2 := ht1.usg i.1 hi
  obtain ⟨y1, hy1⟩ : ∃ y, SYN.getD i.1 0 = y := ⟨_, rfl⟩
  obtain ⟨y2, hy2⟩ : ∃ y, USG.getD i.1 0 = y := ⟨_, rfl⟩
  rw [hy1] at s1
  rw [hy2] at s2
  clear hW1 hWa
  go_region_held3 (fun w' => w'.cell? ⟨Wa.heap.size, 0, none⟩ = some (.string (rowL i).1) ∧ w'.cell? ⟨Wa.heap.size, 2, none⟩ = some (.string (rowL i).2.2) ∧ w'.cell? ⟨2, i.1, none⟩ = some (.int .i64 y1) ∧ w'.cell? ⟨3, i.1, none⟩ = some (.int .i64 y2))
    (go_keep)
    (fail)
  obtain ⟨W2, hW2⟩ : ∃ W2, (W1.alloc (.cells #[.string (rowL i).1, .slice none 0 0, .string (rowL i).2.2, .string ⟨#[]⟩, .int .i64 y1, .int .i64 y2] 86)).drew = W2 := ⟨_, rfl⟩
  rw [hW2]
  have hB2 : Below W1.heap.size W1 W2 := by rw [← hW2]; exact ((Below.refl _ _).alloc (Nat.le_refl _) _).drew
  have hT2 : W2.heap[W1.heap.size]? = some (.cells #[.string (rowL i).1, .slice none 0 0, .string (rowL i).2.2, .string ⟨#[]⟩, .int .i64 y1, .int .i64 y2] 86 (0, 0)) := by rw [← hW2]; exact heap_alloc_last W1 _
  have hl2 : W2.heap[Wa.heap.size]? = some (.cells #[.string (rowL i).1, .string (rowL i).2.1, .string (rowL i).2.2] 63 (0, 0)) := (hB2.block _ (Array.getElem?_eq_some_iff.1 hl1).1).trans hl1
  have hb2 : Book W2 b m := (hH.out.2.2.1.below hB1).below hB2
  have ht2 : NumT3 W2 := ht1.below hB2
  have hr2 : W2.heap[w.heap.size]? = some (.cells #[.string ⟨#[]⟩, .slice none 0 0, .string ⟨#[]⟩, .string ⟨#[]⟩, .int .i64 0, .int .i64 0] 86 (0, 0)) := ((hB2.mono hB1.size).block _ (Array.getElem?_eq_some_iff.1 hH.out.2.1).1).trans ((hB1.block _ (Array.getElem?_eq_some_iff.1 hH.out.2.1).1).trans hH.out.2.1)
  have HB2 : Below w.heap.size w W2 := (hH.out.1.trans (hB1.mono hH.out.1.size)).trans (hB2.mono (Nat.le_trans hH.out.1.size hB1.size))
  have hne : Hid (w.heap.size < Wa.heap.size ∧ Wa.heap.size < W1.heap.size ∧ W1.heap.size < W2.heap.size) := ⟨(Array.getElem?_eq_some_iff.1 hH.out.2.1).1, (Array.getElem?_eq_some_iff.1 hl1).1, (Array.getElem?_eq_some_iff.1 hT2).1⟩
  clear hW2 d0 d1 d2 s1 s2 hB1 hB2 hl1 hH ht1 c0 c1 c2
  obtain ⟨e0, _⟩ := row_cell hl2 (j := 1) (by simp)
  simp only [List.getElem_toArray, List.getElem_cons_zero, List.getElem_cons_succ] at e0
  go_upto_if 27 with fail
  have hW0 : Hid (Book w b m ∧ NumT3 w) := ⟨hb, ht⟩
  have t1 := row_cell hT2 (j := 1) (by simp)
  have hM2 : Hid (W2.heap[W1.heap.size]? = some (.cells #[.string (rowL i).1, .slice none 0 0, .string (rowL i).2.2, .string ⟨#[]⟩, .int .i64 y1, .int .i64 y2] 86 (0, 0)) ∧ W2.heap[w.heap.size]? = some (.cells #[.string ⟨#[]⟩, .slice none 0 0, .string ⟨#[]⟩, .string ⟨#[]⟩, .int .i64 0, .int .i64 0] 86 (0, 0)) ∧ Below w.heap.size w W2) := ⟨hT2, hr2, HB2⟩
  obtain ⟨t1c, t1f⟩ := t1
  simp only [List.getElem_toArray, List.getElem_cons_zero, List.getElem_cons_succ] at t1c
  have hw12 : W1.heap.size < W2.heap.size := hne.out.2.2
  clear hT2 hb2 ht2 hr2 HB2 hl2 hb ht
  go_cut [] (fun wx => ∃ al, Mid w i W1.heap.size w.heap.size al ⟨#[]⟩ wx)
  case first =>
    by_cases he : (rowL i).2.1.toList = []
    · have hb0 : (rowL i).2.1.toList.isEmpty = true := by rw [he]; rfl
      rw [hb0]
      go_wp2_with fail
      go_meet
      case rel =>
        obtain ⟨m1, m4, m5⟩ := hM2.out
        rw [← hy1, ← hy2] at m1
        exact ⟨_, m1, m4, m5, Or.inl ⟨he, rfl⟩⟩
    · have hb0 : (rowL i).2.1.toList.isEmpty = false := by simpa using he
      rw [hb0]
      go_wp2_with fail
      go_meet
      case rel =>
        obtain ⟨m1, m4, m5⟩ := hM2.out
        obtain ⟨n1, n2, n3⟩ := hne.out
        rw [← hy1, ← hy2] at m1
        refine ⟨.slice (some ⟨W2.heap.size, 0, none⟩) 1 1, ?_, ?_, ?_, Or.inr ⟨he, W2.heap.size, 1, by omega, by omega, rfl, ?_⟩⟩
        · rw [Below.heap_alloc _ _ _ (by simp; omega)]
          exact Go.heap_setCell_same _ _ _ _ _ _ m1
        · rw [Below.heap_alloc _ _ _ (by simp; omega), Below.heap_setCell _ _ _ _ (by show w.heap.size ≠ W1.heap.size; omega)]
          exact m4
        · refine Below.alloc (Below.setCell m5 ?_ _) ?_ _
          · show w.heap.size ≤ W1.heap.size; omega
          · simp; omega
        · have h := heap_alloc_last (W2.setCell ⟨W1.heap.size, 1, none⟩ (.slice (some ⟨W2.heap.size, 0, none⟩) 1 1)) (.cells #[.string (rowL i).2.1] 9)
          rw [World.size_setCell] at h
          exact (row_cell h (j := 0) (by simp)).1
  case rest =>
    obtain ⟨al, hmd⟩ := hcut
    have htc := hW0.out.2.below hmd.bel
    have s3 := htc.sup i.1 hi
    rw [supI_eq] at s3
    have hmd' : Hid (Mid w i W1.heap.size w.heap.size al ⟨#[]⟩ wc) := hmd
    obtain ⟨t3c, t3f⟩ := row_cell hmd.row (j := 3) (by simp)
    simp only [List.getElem_toArray, List.getElem_cons_zero, List.getElem_cons_succ] at t3c
    obtain ⟨b0, _, _⟩ := (hW0.out.1.below hmd.bel).cells ⟨supI i, supI_lt i⟩
    have k0 : (0 : Int) ≤ (supI i : Int) := Int.natCast_nonneg _
    have k1 : (supI i : Int) < 62 := by have := supI_lt i; omega
    simp only at b0
    clear hmd htc hM2 t1c t1f hy1 hy2 e0 hw12
    go_upto_if 36 with fail
    go_cut [] (fun wx => Mid w i W1.heap.size w.heap.size al (supN i) wx)
    case first =>
      by_cases he : supI i = 0
      · have hd : ((supI i : Int) != 0) = false := by rw [he]; rfl
        have hsp : supN i = ⟨#[]⟩ := by unfold supN; rw [if_pos he]
        have hd2 : (supI i : Int) = 0 := by rw [he]; rfl
        have hsp' : Hid (supN i = ⟨#[]⟩) := hsp
        rw [hd]
        clear b0 k0 k1 hsp hd hd2 he
        go_wp2_with fail
        go_meet
        case rel => rw [hsp'.out]; exact hmd'.out
      · have hd : ((supI i : Int) != 0) = true := by rw [bne_iff_ne]; omega
        have hd2 : ¬ (supI i : Int) = 0 := by omega
        have hsp : supN i = (rowL ⟨supI i, supI_lt i⟩).1 := by unfold supN; rw [if_neg he]
        have hsp' : Hid (supN i = (rowL ⟨supI i, supI_lt i⟩).1) := hsp
        rw [hd]
        clear hsp hd hd2 he
        go_wp2_with fail
        go_meet
        case rel =>
          rw [hsp'.out]
          obtain ⟨m1, m4, m5, m6⟩ := hmd'.out
          obtain ⟨n1, n2, n3⟩ := hne.out
          refine ⟨Go.heap_setCell_same _ _ _ _ _ _ m1, ?_, ?_, ?_⟩
          · rw [Below.heap_setCell _ _ _ _ (by show w.heap.size ≠ W1.heap.size; omega)]; exact m4
          · refine Below.setCell m5 ?_ _
            show w.heap.size ≤ W1.heap.size; omega
          · rcases m6 with m6 | ⟨m6, g, c, q1, q2, q3, q4⟩
            · exact Or.inl m6
            · refine Or.inr ⟨m6, g, c, q1, q2, q3, ?_⟩
              rw [World.cell?_setCell_other _ _ _ _ (by intro hh; injection hh with hh; exact q2 hh.symm)]
              exact q4
    case rest =>
      obtain ⟨h1, h2, h3, h4⟩ := hcut
      obtain ⟨z1, hz1⟩ : ∃ z, SYN.getD i.1 0 = z := ⟨_, rfl⟩
      obtain ⟨z2, hz2⟩ : ∃ z, USG.getD i.1 0 = z := ⟨_, rfl⟩
      rw [hz1, hz2] at h1
      obtain ⟨p0, _⟩ := row_cell h1 (j := 0) (by simp)
      obtain ⟨r0, f0⟩ := row_cell h2 (j := 0) (by simp)
      obtain ⟨p1, _⟩ := row_cell h1 (j := 1) (by simp)
      obtain ⟨r1, f1⟩ := row_cell h2 (j := 1) (by simp)
      obtain ⟨p2, _⟩ := row_cell h1 (j := 2) (by simp)
      obtain ⟨r2, f2⟩ := row_cell h2 (j := 2) (by simp)
      obtain ⟨p3, _⟩ := row_cell h1 (j := 3) (by simp)
      obtain ⟨r3, f3⟩ := row_cell h2 (j := 3) (by simp)
      obtain ⟨p4, _⟩ := row_cell h1 (j := 4) (by simp)
      obtain ⟨r4, f4⟩ := row_cell h2 (j := 4) (by simp)
      obtain ⟨p5, _⟩ := row_cell h1 (j := 5) (by simp)
      obtain ⟨r5, f5⟩ := row_cell h2 (j := 5) (by simp)
      simp only [List.getElem_toArray, List.getElem_cons_zero, List.getElem_cons_succ] at p0 p1 p2 p3 p4 p5 r0 r1 r2 r3 r4 r5
      obtain ⟨al1, al2, al3, rfl⟩ : ∃ a1 a2 a3, al = .slice a1 a2 a3 := by
        rcases h4 with ⟨_, h⟩ | ⟨_, g, c, _, _, h, _⟩
        · exact ⟨_, _, _, h⟩
        · exact ⟨_, _, _, h⟩
      have hx : Hid (W1.heap.size ≠ w.heap.size) := by have := hne.out; unfold Hid; omega
      have hx' : ¬ W1.heap.size = w.heap.size := hx.out
      have h2' : Hid (wc.heap[w.heap.size]? = some (.cells #[.string ⟨#[]⟩, .slice none 0 0, .string ⟨#[]⟩, .string ⟨#[]⟩, .int .i64 0, .int .i64 0] 86 (0, 0))) := h2
      clear h1 h2 s3 t3c t3f b0 hmd' k0 k1
      go_wp2_with fail
      obtain ⟨Wf, hWf⟩ : ∃ Wf, ((((((wc.setCell ⟨w.heap.size, 0, none⟩ (.string (rowL i).1)).setCell ⟨w.heap.size, 1, none⟩ (.slice al1 al2 al3)).setCell ⟨w.heap.size, 2, none⟩ (.string (rowL i).2.2)).setCell ⟨w.heap.size, 3, none⟩ (.string (supN i))).setCell ⟨w.heap.size, 4, none⟩ (.int .i64 z1)).setCell ⟨w.heap.size, 5, none⟩ (.int .i64 z2)) = Wf := ⟨_, rfl⟩
      rw [hWf]
      have hf : Wf.heap[w.heap.size]? = some (.cells #[.string (rowL i).1, .slice al1 al2 al3, .string (rowL i).2.2, .string (supN i), .int .i64 z1, .int .i64 z2] 86 (0, 0)) := by
        rw [← hWf]
        exact Go.heap_setCell_same _ _ _ _ _ _ (Go.heap_setCell_same _ _ _ _ _ _ (Go.heap_setCell_same _ _ _ _ _ _ (Go.heap_setCell_same _ _ _ _ _ _ (Go.heap_setCell_same _ _ _ _ _ _ (Go.heap_setCell_same _ _ _ _ _ _ h2'.out)))))
      have hoth : ∀ y, y ≠ w.heap.size → Wf.heap[y]? = wc.heap[y]? := fun y hy => by
        rw [← hWf, Below.heap_setCell _ _ _ _ hy, Below.heap_setCell _ _ _ _ hy, Below.heap_setCell _ _ _ _ hy, Below.heap_setCell _ _ _ _ hy, Below.heap_setCell _ _ _ _ hy, Below.heap_setCell _ _ _ _ hy]
      have hBf : Below w.heap.size w Wf := by
        rw [← hWf]
        refine Below.setCell (Below.setCell (Below.setCell (Below.setCell (Below.setCell (Below.setCell h3 ?_ _) ?_ _) ?_ _) ?_ _) ?_ _) ?_ _ <;> exact Nat.le_refl _
      refine bodyPost_ret (v := .agg #[.string (rowL i).1, .slice al1 al2 al3, .string (rowL i).2.2, .string (supN i), .int .i64 z1, .int .i64 z2]) ?_ rfl ⟨_, rfl, ?_, hBf⟩
      · exact results_cell_row rfl _ _ w.heap.size 86 _ (0, 0) _ rfl hf Tryd.underlying86 rfl (by kernel_rfl)
      · refine ⟨_, by rw [hz1, hz2], ?_⟩
        rcases h4 with h4 | ⟨m6, g, c, q1, q2, q3, q4⟩
        · exact Or.inl h4
        · refine Or.inr ⟨m6, g, c, Nat.le_of_lt q1, q3, ?_⟩
          rw [World.cell?_of_block (w := wc) (a := ⟨g, 0, none⟩) (hoth g (by omega))]
          exact q4
end Go.Proofs.YtdeeegocjgikoaaDoor
