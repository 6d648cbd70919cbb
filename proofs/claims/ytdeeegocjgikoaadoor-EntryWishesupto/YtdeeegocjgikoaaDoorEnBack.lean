import Derived.Test.YtdeeegocjgikoaaDoorEnCopy
namespace Go.Proofs.YtdeeegocjgikoaaDoor
open Go.RowKit
set_option linter.unusedVariables false

/-- The pairs of attributes, in their order. -/
def prs (xs : List Atr) : List (List UInt8 × List UInt8) := xs.flatMap (fun x => x.l.map (fun v => (x.d, v)))
theorem prs_snoc (xs : List Atr) (x : Atr) : prs (xs ++ [x]) = prs xs ++ x.l.map (fun v => (x.d, v)) := by simp [prs]
theorem prs_take_le (xs : List Atr) (i : Nat) : (prs (xs.take i)).length ≤ (prs xs).length := by
  have h2 : prs xs = prs (xs.take i) ++ prs (xs.drop i) := by
    unfold prs
    rw [← List.flatMap_append, List.take_append_drop]
  rw [h2, List.length_append]
  omega
theorem prs_pl {xs ys : List Atr} (h : ys.map pl = xs.map pl) : prs ys = prs xs := by
  have e : ∀ zs : List Atr, prs zs = (zs.map pl).flatMap (fun t => t.2.2.map (fun v => (t.1, v))) := fun zs => by
    unfold prs
    rw [List.flatMap_map]
    rfl
  rw [e, e, h]
theorem set3_keep (W : World) (g : Nat) (a b c : Value) (k : Nat) (h : k ≠ g) : (((W.setCell ⟨g, 0, none⟩ a).setCell ⟨g, 1, none⟩ b).setCell ⟨g, 2, none⟩ c).heap[k]? = W.heap[k]? := by
  rw [Below.heap_setCell _ _ _ _ h, Below.heap_setCell _ _ _ _ h, Below.heap_setCell _ _ _ _ h]
theorem set3_below {w W : World} {B g : Nat} {a b c : Value} (h : Below B w W) (hg : B ≤ g) : Below B w (((W.setCell ⟨g, 0, none⟩ a).setCell ⟨g, 1, none⟩ b).setCell ⟨g, 2, none⟩ c) :=
  Below.setCell (Below.setCell (Below.setCell h hg _) hg _) hg _

end Go.Proofs.YtdeeegocjgikoaaDoor
