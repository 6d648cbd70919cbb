import Derived.Test.YtkiidlnimjjnlaaDoorBCatch
import Derived.Shelf.Abstract
namespace Go.Proofs.YtkiidlnimjjnlaaDoor
open Go.RowKit
open BerMath (Hd HR num hAt)

/-- Values that lie in a block's first cells and may be written. -/
def Cells (W : World) (b : Nat) (vs : List Value) : Prop := ∀ j (hj : j < vs.length), W.cell? ⟨b, j, none⟩ = some vs[j] ∧ W.frozen? ⟨b, j, none⟩ = false
theorem Cells.of_block {W W' : World} {b : Nat} {vs : List Value} (h : Cells W b vs) (e : W'.heap[b]? = W.heap[b]?) : Cells W' b vs := fun j hj => by
  rw [World.cell?_of_block (w := W) (w' := W') (a := ⟨b, j, none⟩) e, World.frozen?_of_block (w := W) (w' := W') (a := ⟨b, j, none⟩) e]
  exact h j hj

theorem Cells.set {W : World} {b : Nat} {vs : List Value} (h : Cells W b vs) (k : Nat) (hk : k < vs.length) (y : Value) : Cells (W.setCell ⟨b, k, none⟩ y) b (vs.set k y) := by
  intro j hj
  have hj' : j < vs.length := by simpa using hj
  rw [World.frozen?_setCell]
  refine ⟨?_, (h j hj').2⟩
  by_cases e : k = j
  · subst e
    rw [World.cell?_setCell_same W _ _ (h k hk).1]; simp
  · rw [World.cell?_setCell_other W _ _ _ (by intro hh; injection hh with _ h2 _; exact e h2), (h j hj').1]
    simp [e]

theorem all_any (s : ByteArray) (w : World) : Calls Tryd.prog 71 #[.string s] w fun r w' => r = .returned (strV s s.size 20) ∧ Below w.heap.size w w' := by
  go_enter Tryd.func71, Tryd.ntmps71
  go_wp2_with fail
  refine bodyPost_ret_by (v := strV s s.size 20) ?_ rfl ⟨rfl, ?_⟩
  · simp [results, Tryd.results71, go_sem]
  · repeat' first | exact Below.refl _ _ | refine Below.setCell ?_ (by simp) _ | refine Below.alloc ?_ (by simp) _ | refine Below.alloc ?_ (by simp; omega) _

def hdL (h : Hd) : List Value := [.int .i64 (h.cls : Int), .bool h.made, .int .i64 (h.tag : Int), .int .i64 (h.len : Int), .int .i64 (h.size : Int)]
def hdZ : List Value := [.int .i64 0, .bool false, .int .i64 0, .int .i64 0, .int .i64 0]

/-- What the reader of one header leaves. -/
def headQ (s : ByteArray) (ph : Nat) (w : World) (r : Ending) (w' : World) : Prop :=
  (∀ b, b < w.heap.size → b ≠ ph → w'.heap[b]? = w.heap[b]?) ∧ Below ph w w' ∧
  ((∃ h, hAt s.data.toList 0 s.size = .ok h ∧ r = .returned (.tuple #[]) ∧ Cells w' ph (hdL h)) ∨
   (∃ c q, headR s.data.toList 0 s.size 20 = gaveUp c q ∧ r = gaveUp c q ∧ Cells w' ph hdZ))

theorem head_cases (b : List UInt8) (p e : Nat) (m : Int) : (∃ h, hAt b p e = .ok h ∧ headR b p e m = .returned (hdV h)) ∨ (∃ c q, headR b p e m = gaveUp c q) := by
  unfold headR
  cases hAt b p e with
  | ok h => exact Or.inl ⟨h, rfl, rfl⟩
  | error o =>
    cases o with
    | some cq =>
      obtain ⟨c, q⟩ := cq
      exact Or.inr ⟨_, _, rfl⟩
    | none => exact Or.inr ⟨_, _, rfl⟩

end Go.Proofs.YtkiidlnimjjnlaaDoor
