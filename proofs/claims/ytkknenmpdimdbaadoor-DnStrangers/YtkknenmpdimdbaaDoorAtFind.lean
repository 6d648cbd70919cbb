import Derived.Test.YtkknenmpdimdbaaDoorAtRow
import Derived.Test.YtkknenmpdimdbaaDoorFold
import Derived.BigQuiet
namespace Go.Proofs.YtkknenmpdimdbaaDoor
open Go.RowKit
open TextMath (fold lo)

theorem con_one (f : ByteArray) (g : Nat) (w : World) (hg : w.cell? ⟨g, 0, none⟩ = some (.string f)) : ∀ W x, Below w.heap.size w W → Hid (Calls Tryd.prog 31 #[.slice (some ⟨g, 0, none⟩) 1 1, .string x] W fun e w' => e = .returned (.bool (Lib.containsS [f] x)) ∧ w' = W) := fun W x hb => by
  have h := Tryd.slices_Contains_string g 0 1 1 [f] x W (by simp) (by decide) (fun j hj => by
    have : j = 0 := by simp at hj; exact hj
    subst this
    rw [hb.cell (World.block_lt_of_cell? w _ hg)]
    exact hg)
  exact h
/-- A book of one asked text, its cells a letter. -/
theorem openBook_one (f : ByteArray) (g : Nat) (w : World) (hg : w.cell? ⟨g, 0, none⟩ = some (.string f)) :
    Calls Tryd.prog 48 #[.slice (some ⟨g, 0, none⟩) 1 1] w fun e w' => ∃ B cs, w.heap.size ≤ B ∧ e = .returned (.agg cs) ∧ Hid (bkC B (upF 62) = cs) ∧ cs.size = 187 ∧ (∀ v ∈ cs.toList, v.oneCell' = true) ∧ cs[186]? = some (.map (some B)) ∧ Hid (w'.ownsMap Tryd.prog 9 (plainElem (H := Nat) Tryd.prog 3) B 186 (mapD [f] (upF 62))) ∧ Below w.heap.size w w' := by
  refine (openBook_any _ 1 1 [f] w (con_one f g w hg)).mono ?_
  intro e w' h
  obtain ⟨B, h1, h2, h3, h4⟩ := h
  exact ⟨B, bkC B (upF 62), h1, h2, rfl, bkC_size _ _, bkC_one _ _, bkC_last _ _, h3, h4⟩
theorem six {W : World} {R : Nat} {t : TypeId} {a0 a1 a2 a3 a4 a5 : Value} (h : W.heap[R]? = some (.cells #[a0, a1, a2, a3, a4, a5] t (0, 0))) (v0 v1 v2 v3 v4 v5 : Value) :
    ∃ W', (((((W.setCell ⟨R, 0, none⟩ v0).setCell ⟨R, 1, none⟩ v1).setCell ⟨R, 2, none⟩ v2).setCell ⟨R, 3, none⟩ v3).setCell ⟨R, 4, none⟩ v4).setCell ⟨R, 5, none⟩ v5 = W' ∧ W'.heap[R]? = some (.cells #[v0, v1, v2, v3, v4, v5] t (0, 0)) ∧ (∀ y, y ≠ R → W'.heap[y]? = W.heap[y]?) ∧ ∀ B u, B ≤ R → Below B u W → Below B u W' := by
  refine ⟨_, rfl, Go.heap_setCell_same _ _ _ _ _ _ (Go.heap_setCell_same _ _ _ _ _ _ (Go.heap_setCell_same _ _ _ _ _ _ (Go.heap_setCell_same _ _ _ _ _ _ (Go.heap_setCell_same _ _ _ _ _ _ (Go.heap_setCell_same _ _ _ _ _ _ h))))), fun y hy => ?_, fun B u hB hu => ?_⟩
  · rw [Below.heap_setCell _ _ _ _ hy, Below.heap_setCell _ _ _ _ hy, Below.heap_setCell _ _ _ _ hy, Below.heap_setCell _ _ _ _ hy, Below.heap_setCell _ _ _ _ hy, Below.heap_setCell _ _ _ _ hy]
  · refine Below.setCell (Below.setCell (Below.setCell (Below.setCell (Below.setCell (Below.setCell hu ?_ _) ?_ _) ?_ _) ?_ _) ?_ _) ?_ _ <;> exact hB
theorem RowIs.of {W W' : World} {B : Nat} {i : Fin 62} {v : Value} (h : RowIs W B i v) (hb : ∀ y, B ≤ y → y < W.heap.size → W'.heap[y]? = W.heap[y]?) : RowIs W' B i v := by
  obtain ⟨al, e, h4⟩ := h
  refine ⟨al, e, ?_⟩
  rcases h4 with h4 | ⟨m6, g, c, q1, q3, q4⟩
  · exact Or.inl h4
  · refine Or.inr ⟨m6, g, c, q1, q3, ?_⟩
    rw [World.cell?_of_block (w := W) (a := ⟨g, 0, none⟩) (hb g q1 (World.block_lt_of_cell? W _ q4))]
    exact q4
/-- What Find answers of a folded text. -/
def FindIs (W : World) (B : Nat) (f : ByteArray) (e : Ending) : Prop :=
  (rowOf f = none ∧ e = .returned (.tuple #[.agg #[.string ⟨#[]⟩, .slice none 0 0, .string ⟨#[]⟩, .string ⟨#[]⟩, .int .i64 0, .int .i64 0], .bool false])) ∨
  (∃ i v, rowOf f = some i ∧ e = .returned (.tuple #[v, .bool true]) ∧ RowIs W B i v)

theorem st_book (W : World) (cs : Array Value) (hz : cs.size = 187) (h1 : ∀ v ∈ cs.toList, v.oneCell' = true) : (storeCells ⟨W.heap.size, 0, none⟩ cs.toList 0).run Tryd.prog (W.alloc (.cells Tryd.zeroCells109 109)) = .ok () (W.alloc (.cells cs 109)) := by
  refine run_storeCells_new W _ _ cs (by rw [hz]; kernel_rfl) (by rw [hz]; kernel_rfl) ?_
  rw [Array.all_eq_true']
  intro v hv
  exact h1 v (by simpa using hv)

end Go.Proofs.YtkknenmpdimdbaaDoor
