import Derived.Test.YtkcncepfncdbhaaDoorAtMapM
namespace Go.Proofs.YtkcncepfncdbhaaDoor
open Go.RowKit
set_option linter.unusedVariables false

/-- What a map says of one text. -/
def View (D : DataW Nat) (f : ByteArray) (o : Option (Fin 62)) : Prop :=
  Maps.IsMap D ∧ Maps.has D (.string f.data.toList) = o.isSome ∧ ∀ i, o = some i → ∀ z, D.atKey (.string f.data.toList) z = .lit (.int .i64 (i.1 : Int))
theorem str_ne_lit {s f : ByteArray} (h : ¬ s = f) : (Lit.string f.data.toList) ≠ .string s.data.toList := by
  intro e
  injection e with e
  apply h
  cases s
  cases f
  simp at e
  rw [e]
theorem view_step (zs : List ByteArray) (f : ByteArray) (hf : f ∈ zs) (i : Fin 62) (D : DataW Nat) (o : Option (Fin 62)) (h : View D f o) (s : ByteArray) : View (stepD zs i D s) f (if ¬ s.toList = [] ∧ s = f then some i else o) := by
  unfold stepD
  by_cases hs : ¬ s.toList = [] ∧ Lib.containsS zs s = true
  · rw [if_pos hs]
    by_cases e : s = f
    · subst e
      rw [if_pos ⟨hs.1, rfl⟩]
      refine ⟨h.1.put _ _, Maps.has_put_same h.1 (show WideAt.IsKeyLit (Lit.string _) from trivial) _, ?_⟩
      intro j hj z
      injection hj with hj
      subst hj
      exact Maps.atKey_put_same h.1 (show WideAt.IsKeyLit (Lit.string _) from trivial) _ _
    · rw [if_neg (fun q => e q.2)]
      refine ⟨h.1.put _ _, ?_, ?_⟩
      · rw [Maps.has_put_other (str_ne_lit e)]; exact h.2.1
      · intro j hj z
        rw [Maps.atKey_put_other (str_ne_lit e)]
        exact h.2.2 j hj z
  · rw [if_neg hs, if_neg]
    · exact h
    · rintro ⟨h1, rfl⟩
      exact hs ⟨h1, (Lib.containsS_iff _ _).2 hf⟩
theorem view_row (zs : List ByteArray) (f : ByteArray) (hf : f ∈ zs) (i : Fin 62) (D : DataW Nat) (o : Option (Fin 62)) (h : View D f o) : View ((nms i).foldl (stepD zs i) D) f (if hit f i = true then some i else o) := by
  have h1 := view_step zs f hf i D o h (rowL i).1
  have h2 := view_step zs f hf i _ _ h1 (rowL i).2.1
  have h3 := view_step zs f hf i _ _ h2 (rowL i).2.2
  have e : (nms i).foldl (stepD zs i) D = stepD zs i (stepD zs i (stepD zs i D (rowL i).1) (rowL i).2.1) (rowL i).2.2 := rfl
  rw [e]
  have ho : (if hit f i = true then some i else o) = (if ¬ (rowL i).2.2.toList = [] ∧ (rowL i).2.2 = f then some i else if ¬ (rowL i).2.1.toList = [] ∧ (rowL i).2.1 = f then some i else if ¬ (rowL i).1.toList = [] ∧ (rowL i).1 = f then some i else o) := by
    by_cases hh : hit f i = true
    · rw [if_pos hh]
      obtain ⟨n0, q⟩ := (hit_iff f i).1 hh
      by_cases a3 : ¬ (rowL i).2.2.toList = [] ∧ (rowL i).2.2 = f
      · rw [if_pos a3]
      · rw [if_neg a3]
        by_cases a2 : ¬ (rowL i).2.1.toList = [] ∧ (rowL i).2.1 = f
        · rw [if_pos a2]
        · rw [if_neg a2]
          by_cases a1 : ¬ (rowL i).1.toList = [] ∧ (rowL i).1 = f
          · rw [if_pos a1]
          · exfalso
            rcases q with q | q | q
            · exact a1 ⟨by rw [← q]; exact n0, q.symm⟩
            · exact a2 ⟨by rw [← q]; exact n0, q.symm⟩
            · exact a3 ⟨by rw [← q]; exact n0, q.symm⟩
    · rw [if_neg hh, if_neg, if_neg, if_neg]
      · rintro ⟨n0, q⟩; exact hh ((hit_iff f i).2 ⟨by rw [← q]; exact n0, Or.inl q.symm⟩)
      · rintro ⟨n0, q⟩; exact hh ((hit_iff f i).2 ⟨by rw [← q]; exact n0, Or.inr (Or.inl q.symm)⟩)
      · rintro ⟨n0, q⟩; exact hh ((hit_iff f i).2 ⟨by rw [← q]; exact n0, Or.inr (Or.inr q.symm)⟩)
  rw [ho]
  exact h3
theorem view_fold (zs : List ByteArray) (f : ByteArray) (hf : f ∈ zs) (pre : List (Fin 62)) : ∀ (D : DataW Nat) (o : Option (Fin 62)), View D f o → View (pre.foldl (fun D i => (nms i).foldl (stepD zs i) D) D) f (pre.foldl (fun o i => if hit f i = true then some i else o) o) := by
  induction pre with
  | nil => intro D o h; exact h
  | cons i pre ih => intro D o h; exact ih _ _ (view_row zs f hf i D o h)
/-- What the map of some asked texts says of one of them. -/
theorem view_all (zs : List ByteArray) (f : ByteArray) (hf : f ∈ zs) : View (mapD zs (upF 62)) f (rowOf f) := by
  have h := view_fold zs f hf (upF 62) (.map []) none ⟨⟨[], rfl⟩, rfl, fun i hi => by cases hi⟩
  rw [← last_find]
  exact h
end Go.Proofs.YtkcncepfncdbhaaDoor
