import Derived.Test.YtndbbfbihheagaaDoorAtOwn
import Derived.Test.YtndbbfbihheagaaDoorAtBook
import Derived.Maps.OwnSet
import Derived.Maps.RangeWalk
import Derived.Maps.Ext
import Derived.Maps.AppendAt
namespace Go.Proofs.YtndbbfbihheagaaDoor
open Go.RowKit
set_option linter.unusedVariables false

theorem lit_ne {x y : List UInt8} (h : ¬ x = y) : (Lit.string x) ≠ .string y := fun e => h (by injection e)
/-- A row of texts by its cells: nothing, or a block. -/
def TRow (w : World) (a : Option Addr) (l : List (List UInt8)) : Prop := ∀ i (hi : i < l.length), ∃ g, a = some ⟨g, 0, none⟩ ∧ w.cell? ⟨g, i, none⟩ = some (.string (S l[i]))
theorem ownS_trow {w : World} {B : Nat} {v : Value} {l : List (List UInt8)} (h : OwnS w B v l) : ∃ a c, v = .slice a l.length c ∧ TRow w a l := by
  rcases ownS_form h with ⟨rfl, rfl⟩ | ⟨g, cap, rfl⟩
  · exact ⟨none, 0, rfl, fun i hi => by simp at hi⟩
  · exact ⟨_, _, rfl, fun i hi => ⟨g, rfl, ownS_cell h i hi⟩⟩
theorem TRow.below {w w' : World} {a : Option Addr} {l : List (List UInt8)} (h : TRow w a l) (hb : Below w.heap.size w w') : TRow w' a l := fun i hi => by
  obtain ⟨g, e, h1⟩ := h i hi
  refine ⟨g, e, ?_⟩
  rw [hb.cell (World.block_lt_of_cell? w _ h1)]
  exact h1

/-- A map that holds just the texts of a list, none twice. -/
def SetIs (D : DataW Unit) (L : List (List UInt8)) : Prop := (∀ x, Maps.has D (.string x) = decide (x ∈ L)) ∧ L.Nodup ∧ Maps.size D = L.length
theorem SetIs.zero : SetIs (.map []) [] := ⟨fun x => rfl, List.nodup_nil, rfl⟩
theorem SetIs.put {D : DataW Unit} {L : List (List UInt8)} (h : SetIs D L) (hm : Maps.IsMap D) (ht : Maps.Tidy D) (x : List UInt8) : ∃ L', SetIs (D.put (.string x) (.agg [])) L' ∧ ∀ y, y ∈ L' ↔ y ∈ L ∨ y = x := by
  have hx := h.1 x
  by_cases e : x ∈ L
  · refine ⟨L, ⟨fun y => ?_, h.2.1, ?_⟩, fun y => ⟨Or.inl, fun q => by rcases q with q | rfl <;> assumption⟩⟩
    · by_cases ey : y = x
      · subst ey; rw [Maps.has_put_same hm (show WideAt.IsKeyLit (Lit.string _) from trivial)]; simp [e]
      · rw [Maps.has_put_other (lit_ne ey), h.1 y]
    · rw [Maps.size_put ht, hx, if_pos (by simp [e])]; exact h.2.2
  · refine ⟨L ++ [x], ⟨fun y => ?_, ?_, ?_⟩, fun y => by simp⟩
    · by_cases ey : y = x
      · subst ey; rw [Maps.has_put_same hm (show WideAt.IsKeyLit (Lit.string _) from trivial)]; simp
      · rw [Maps.has_put_other (lit_ne ey), h.1 y]; simp [ey]
    · rw [List.nodup_append]
      refine ⟨h.2.1, by simp, ?_⟩
      intro a ha b hb
      simp at hb
      subst hb
      intro q
      subst q
      exact e ha
    · rw [Maps.size_put ht, hx, if_neg (by simp [e]), h.2.2]; simp
theorem SetIs.del {D : DataW Unit} {L : List (List UInt8)} (h : SetIs D L) (ht : Maps.Tidy D) (x : List UInt8) : SetIs (D.del (.string x)) (L.erase x) := by
  have hx := h.1 x
  have hs := Maps.size_del (k := .string x) ht
  refine ⟨fun y => ?_, h.2.1.erase x, ?_⟩
  · by_cases ey : y = x
    · subst ey; rw [Maps.has_del_same]; simp [h.2.1.mem_erase_iff]
    · rw [Maps.has_del_other (lit_ne ey), h.1 y]; simp [h.2.1.mem_erase_iff, ey]
  · rw [hx, h.2.2] at hs
    by_cases e : x ∈ L
    · rw [if_pos (by simp [e])] at hs
      rw [List.length_erase_of_mem e]
      omega
    · rw [if_neg (by simp [e])] at hs
      rw [List.erase_of_not_mem e]
      omega

/-- What gather leaves behind. -/
def GatherIs (w w' : World) (l : List (List UInt8)) : Prop := ∃ D L, w'.ownsMap Tryd.prog 9 (unitElem (H := Unit)) w.heap.size l.length D ∧ SetIs D L ∧ (∀ x, x ∈ L ↔ x ∈ l) ∧ Below w.heap.size w w' ∧ w.heap.size < w'.heap.size
/-- Whether each asked text is there. -/
def holds (there asked : List (List UInt8)) : Bool := asked.all fun x => decide (x ∈ there)
end Go.Proofs.YtndbbfbihheagaaDoor
