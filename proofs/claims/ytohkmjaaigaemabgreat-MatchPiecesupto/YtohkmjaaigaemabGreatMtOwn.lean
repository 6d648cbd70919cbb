import Derived.Test.YtohkmjaaigaemabGreatBytes
import Derived.Test.YtohkmjaaigaemabGreatInfo
import Derived.Deep.RegionHeld3
import Derived.Deep.RegionHeldLaw
import Derived.Deep.AppendLies
import Derived.Deep.DeepCutAuto
import Derived.KernelRfl
namespace Go.Proofs.YtohkmjaaigaemabGreat
open Go.RowKit

def Cells (W : World) (b : Nat) (vs : List Value) : Prop := ∀ j (hj : j < vs.length), W.cell? ⟨b, j, none⟩ = some vs[j] ∧ W.frozen? ⟨b, j, none⟩ = false
theorem Cells.of_block {W W' : World} {b : Nat} {vs : List Value} (h : Cells W b vs) (e : W'.heap[b]? = W.heap[b]?) : Cells W' b vs := fun j hj => by
  rw [World.cell?_of_block (w := W) (w' := W') (a := ⟨b, j, none⟩) e, World.frozen?_of_block (w := W) (w' := W') (a := ⟨b, j, none⟩) e]
  exact h j hj
theorem Cells.set {W : World} {b : Nat} {vs : List Value} (h : Cells W b vs) (k : Nat) (hk : k < vs.length) (y : Value) : Cells (W.setCell ⟨b, k, none⟩ y) b (vs.set k y) := by
  intro j hj
  have hj' : j < vs.length := by simpa using hj
  rw [World.frozen?_setCell]
  refine ⟨?_, (h j hj').2⟩
  by_cases e : k = j
  · subst e
    rw [World.cell?_setCell_same W _ _ (h k hk).1]; simp
  · rw [World.cell?_setCell_other W _ _ _ (by intro hh; injection hh with _ h2 _; exact e h2), (h j hj').1]
    simp [e]
theorem Cells.lt {W : World} {b : Nat} {v : Value} {vs : List Value} (h : Cells W b (v :: vs)) : b < W.heap.size := World.block_lt_of_cell? W _ (h 0 (by simp)).1

/-- Texts as cells. -/
def sv (l : List (List UInt8)) : List Value := l.map fun m => .string (S m)
theorem sv_len (l : List (List UInt8)) : (sv l).length = l.length := by simp [sv]
theorem sv_snoc (l : List (List UInt8)) (m : List UInt8) : sv (l ++ [m]) = sv l ++ [.string (S m)] := by simp [sv]
theorem info_str : (Tryz.prog.info? 9).map (fun i => (i.zero, i.size, i.bytes)) = some (some (.string ⟨#[]⟩), 1, 16) := by kernel_rfl

/-- A list of texts of the call's own. -/
def OwnS (W : World) (B : Nat) (v : Value) (l : List (List UInt8)) : Prop := W.ownsRow B 9 1 v l.length (sv l)
theorem ownS_nil (W : World) (B : Nat) : OwnS W B (.slice none 0 0) [] := ⟨rfl, Or.inl ⟨rfl, rfl⟩⟩
theorem ownS_below {w w' : World} {B : Nat} {v : Value} {l : List (List UInt8)} (h : OwnS w B v l) (hb : Below w.heap.size w w') : OwnS w' B v l := by
  rcases h with ⟨h1, ⟨rfl, h2⟩ | ⟨g, cap, cur, rfl, h3, h4, h5⟩⟩
  · exact ⟨h1, Or.inl ⟨rfl, h2⟩⟩
  · have hg : g < w.heap.size := by
      rcases Nat.lt_or_ge g w.heap.size with h' | h'
      · exact h'
      · rw [Array.getElem?_eq_none h'] at h4; cases h4
    exact ⟨h1, Or.inr ⟨g, cap, cur, rfl, h3, by rw [hb.block g hg]; exact h4, h5⟩⟩
theorem ownS_base {w : World} {B B' : Nat} {v : Value} {l : List (List UInt8)} (h : OwnS w B v l) (hB : B' ≤ B) : OwnS w B' v l := by
  rcases h with ⟨h1, ⟨rfl, h2⟩ | ⟨g, cap, cur, rfl, h3, h4⟩⟩
  · exact ⟨h1, Or.inl ⟨rfl, h2⟩⟩
  · exact ⟨h1, Or.inr ⟨g, cap, cur, rfl, Nat.le_trans hB h3, h4⟩⟩
theorem ownS_block {w w' : World} {B : Nat} {v : Value} {l : List (List UInt8)} (h : OwnS w B v l) (hb : ∀ g, B ≤ g → g < w.heap.size → w'.heap[g]? = w.heap[g]?) : OwnS w' B v l := by
  rcases h with ⟨h1, ⟨rfl, h2⟩ | ⟨g, cap, cur, rfl, h3, h4, h5⟩⟩
  · exact ⟨h1, Or.inl ⟨rfl, h2⟩⟩
  · have hg : g < w.heap.size := by
      rcases Nat.lt_or_ge g w.heap.size with h' | h'
      · exact h'
      · rw [Array.getElem?_eq_none h'] at h4; cases h4
    exact ⟨h1, Or.inr ⟨g, cap, cur, rfl, h3, by rw [hb g h3 hg]; exact h4, h5⟩⟩
theorem ownS_form {w : World} {B : Nat} {v : Value} {l : List (List UInt8)} (h : OwnS w B v l) : (v = .slice none 0 0 ∧ l = []) ∨ (∃ g cap, v = .slice (some ⟨g, 0, none⟩) l.length cap) := by
  have hl := h.1
  rcases h.2 with ⟨rfl, hn⟩ | ⟨g, cap, cur, rfl, _⟩
  · exact Or.inl ⟨rfl, List.eq_nil_of_length_eq_zero hn⟩
  · exact Or.inr ⟨g, cap, rfl⟩
theorem ownS_cell {w : World} {B g cap : Nat} {l : List (List UInt8)} (h : OwnS w B (.slice (some ⟨g, 0, none⟩) l.length cap) l) (i : Nat) (hi : i < l.length) : w.cell? ⟨g, i, none⟩ = some (.string (S l[i])) := by
  have hc := World.ownsRow.cellAt (show w.ownsRow B 9 1 _ l.length (sv l) from h) i (by omega)
  rw [hc]
  simp [sv, hi]

/-- One text appended, at a step of a region that draws its order. -/
theorem step_str (w : World) {ops : Array Oper} {o : Oper} {a : Act} {K : Act → World → Prop} {Q : Exit → Act → World → Prop} {E : Prop} (hgd : o.guard = none) (s x : Operand)
    (ho : o.op = .call { callee := .builtin .append, args := #[s, x], argTypes := #[22, 22] }) (B : Nat) (v : Value) (l : List (List UInt8)) (m : List UInt8) (g : Nat)
    (hs : a.eval s = v) (hx : a.eval x = .slice (some ⟨g, 0, none⟩) 1 1) (hown : OwnS w B v l) (hg : w.heap[g]? = some (.cells #[.string (S m)] 9 (0, 0))) (hB : B ≤ w.heap.size) (hl : l.length ≤ 4194304)
    (h : ∀ g' cap w', OwnS w' B (.slice (some ⟨g', 0, none⟩) (l.length + 1) cap) (l ++ [m]) → w.grownBy w' v.ownBlock → Below B w w' → K (a.put o.dst (.slice (some ⟨g', 0, none⟩) (l.length + 1) cap)) w') :
    if Region.wanted o (yielded ops a.tmps) = true then Oper.wp Tryz.prog o a w K Q else E := by
  obtain ⟨i0, hi, hz0, hz1, hz2⟩ := info_parts info_str
  refine step_append_lies w hgd s x 22 ho B 9 i0 _ 1 16 Tryz.underlying22 hi hz0 hz1 hz2 rfl (by decide) v l.length (sv l) hs hown ⟨g, 0, none⟩ 1 1 [.string (S m)] hx rfl (World.news_of_block hg) (by intro u hu; simp at hu; subst hu; rfl) (by decide) (by unfold maxLen; omega) (by omega) hB w.heap.size rfl ?_
  intro g' cap w' h1 h2 _ _
  refine h g' cap w' ?_ h2 ?_
  · unfold OwnS
    rw [sv_snoc, List.length_append]
    exact h1
  · refine (Below.refl _ _).grown h2 hB ?_
    intro k hk
    exact (hown.lt _ hk).1
end Go.Proofs.YtohkmjaaigaemabGreat
