import Derived.Test.YtkiidlnimjjnlaaDoorBhSpN
import Derived.Test.YtkiidlnimjjnlaaDoorBX2
import Derived.Deep.WholeRow
import Derived.Deep.RegionHeld3
import Derived.Deep.RegionHeldLaw
namespace Go.Proofs.YtkiidlnimjjnlaaDoor
open Go.RowKit
set_option linter.unusedVariables false
theorem info_str : (Tryd.prog.info? 9).map (fun i => (i.zero, i.size, i.bytes)) = some (some (.string ⟨#[]⟩), 1, 16) := by kernel_rfl
/-- A block whose cells are known, all of them. -/
def Box (W : World) (g : Nat) (t : TypeId) (cs : Array Value) : Prop := W.heap[g]? = some (.cells cs t (0, 0))
theorem Box.cell {W : World} {g : Nat} {t : TypeId} {cs : Array Value} (h : Box W g t cs) (j : Nat) (hj : j < cs.size) : W.cell? ⟨g, j, none⟩ = some cs[j] ∧ W.frozen? ⟨g, j, none⟩ = false := by
  refine ⟨?_, Go.frozen_of_row _ _ _ _ _ h⟩
  rw [cell_of_row W g j cs t (0, 0) h]
  simp [hj]
theorem Box.of {W W' : World} {g : Nat} {t : TypeId} {cs : Array Value} (h : Box W g t cs) (e : W'.heap[g]? = W.heap[g]?) : Box W' g t cs := e.trans h
theorem Box.set {W : World} {g : Nat} {t : TypeId} {cs : Array Value} (h : Box W g t cs) (j : Nat) (u : Value) : Box (W.setCell ⟨g, j, none⟩ u) g t (cs.setIfInBounds j u) := Go.heap_setCell_same _ _ _ _ _ _ h
theorem Box.lt {W : World} {g : Nat} {t : TypeId} {cs : Array Value} (h : Box W g t cs) : g < W.heap.size := (Array.getElem?_eq_some_iff.1 h).1
theorem Box.new (W : World) (t : TypeId) (cs : Array Value) : Box (W.alloc (.cells cs t)) W.heap.size t cs := heap_alloc_last W _
theorem Box.past {W : World} {g : Nat} {t : TypeId} {cs : Array Value} (h : Box W g t cs) (o : _) : Box (W.alloc o) g t cs := h.of (Below.heap_alloc _ _ _ h.lt)
theorem Box.below {W W' : World} {g : Nat} {t : TypeId} {cs : Array Value} (h : Box W g t cs) (hb : Below W.heap.size W W') : Box W' g t cs := h.of (hb.block g h.lt)
/-- The numbers by depth; the texts from K on. -/
def NumB (W : World) (g : Nat) (σ : List Nat) : Prop := ∃ cs, Box W g 66 cs ∧ ∀ j, j < 66 → cs[j]? = some (.int .i64 ((σ.getD j 0 : Nat) : Int))
def TxtB (W : World) (g n K : Nat) (H : Nat → List UInt8) : Prop := ∃ cs, Box W g 9 cs ∧ cs.size = n ∧ ∀ j, K ≤ j → j < n → cs[j]? = some (.string (S (H j)))
theorem at_of {W : World} {g j : Nat} {t : TypeId} {cs : Array Value} {v : Value} (hb : Box W g t cs) (h1 : cs[j]? = some v) : W.cell? ⟨g, j, none⟩ = some v ∧ W.frozen? ⟨g, j, none⟩ = false := by
  have hjs : j < cs.size := (Array.getElem?_eq_some_iff.1 h1).1
  have h2 := hb.cell j hjs
  refine ⟨?_, h2.2⟩
  rw [h2.1]
  rw [Array.getElem?_eq_getElem hjs] at h1
  exact h1
theorem NumB.at {W : World} {g : Nat} {σ : List Nat} (h : NumB W g σ) (j : Nat) (hj : j < 66) : W.cell? ⟨g, j, none⟩ = some (.int .i64 ((σ.getD j 0 : Nat) : Int)) ∧ W.frozen? ⟨g, j, none⟩ = false := by
  obtain ⟨cs, hb, hc⟩ := h
  exact at_of hb (hc j hj)
theorem NumB.of {W W' : World} {g : Nat} {σ : List Nat} (h : NumB W g σ) (e : W'.heap[g]? = W.heap[g]?) : NumB W' g σ := by
  obtain ⟨cs, hb, hc⟩ := h
  exact ⟨cs, hb.of e, hc⟩
theorem NumB.set {W : World} {g : Nat} {σ : List Nat} (h : NumB W g σ) (hl : σ.length = 66) (d : Nat) (hd : d < 66) (v : Nat) : NumB (W.setCell ⟨g, d, none⟩ (.int .i64 (v : Int))) g (σ.set d v) := by
  obtain ⟨cs, hb, hc⟩ := h
  have hds : d < cs.size := (Array.getElem?_eq_some_iff.1 (hc d hd)).1
  refine ⟨_, hb.set d _, fun j hj => ?_⟩
  rw [Array.getElem?_setIfInBounds]
  by_cases e : d = j
  · subst e
    rw [if_pos rfl, if_pos hds, BhSpM.getD_set_same _ _ _ (by omega)]
  · rw [if_neg e, BhSpM.getD_set_other _ _ _ _ e]
    exact hc j hj
theorem TxtB.of {W W' : World} {g n K : Nat} {H : Nat → List UInt8} (h : TxtB W g n K H) (e : W'.heap[g]? = W.heap[g]?) : TxtB W' g n K H := by
  obtain ⟨cs, hb, hs, hc⟩ := h
  exact ⟨cs, hb.of e, hs, hc⟩
theorem TxtB.lt {W : World} {g n K : Nat} {H : Nat → List UInt8} (h : TxtB W g n K H) : g < W.heap.size := by
  obtain ⟨cs, hb, _⟩ := h
  exact hb.lt
theorem NumB.lt {W : World} {g : Nat} {σ : List Nat} (h : NumB W g σ) : g < W.heap.size := by
  obtain ⟨cs, hb, _⟩ := h
  exact hb.lt
theorem TxtB.any {W : World} {g n K : Nat} {H : Nat → List UInt8} (h : TxtB W g n K H) (j : Nat) (hj : j < n) : ∃ v, W.cell? ⟨g, j, none⟩ = some v ∧ W.frozen? ⟨g, j, none⟩ = false := by
  obtain ⟨cs, hb, hs, hc⟩ := h
  exact ⟨_, hb.cell j (by omega)⟩
theorem TxtB.at {W : World} {g n K : Nat} {H : Nat → List UInt8} (h : TxtB W g n K H) (j : Nat) (hk : K ≤ j) (hj : j < n) : W.cell? ⟨g, j, none⟩ = some (.string (S (H j))) := by
  obtain ⟨cs, hb, hs, hc⟩ := h
  exact (at_of hb (hc j hk hj)).1
theorem TxtB.set {W : World} {g n i : Nat} {H : Nat → List UInt8} (h : TxtB W g n (i + 1) H) (hi : i < n) (x : List UInt8) : TxtB (W.setCell ⟨g, i, none⟩ (.string (S x))) g n i (updH H i x) := by
  obtain ⟨cs, hb, hs, hc⟩ := h
  refine ⟨_, hb.set i _, by simpa using hs, fun j hk hj => ?_⟩
  rw [Array.getElem?_setIfInBounds]
  by_cases e : i = j
  · subst e
    rw [if_pos rfl, if_pos (by omega)]
    unfold updH
    rw [if_pos rfl]
  · rw [if_neg e]
    unfold updH
    rw [if_neg (fun q => e q.symm)]
    exact hc j (by omega) hj
def sZ : Array Value := (List.replicate 66 (Value.int .i64 0)).toArray
@[simp] theorem s_zero (w : World) : (zeroValue 66).run Tryd.prog w = .ok (.agg sZ) w := by kernel_rfl
@[simp] theorem s_ne : sZ ≠ #[] := fun h => by
  have : sZ.size = 66 := by kernel_rfl
  rw [h] at this
  cases this
theorem num_new (w : World) : NumB (w.alloc (.cells sZ 66)) w.heap.size (List.replicate 66 0) := ⟨sZ, Box.new _ _ _, fun j hj => by
  rw [getD_zeros]
  show (List.replicate 66 (Value.int .i64 0)).toArray[j]? = _
  rw [List.getElem?_toArray, List.getElem?_replicate, if_pos hj]
  rfl⟩
theorem txt_new (w : World) (n : Nat) : TxtB (w.alloc (.cells (madeCells #[.string ⟨#[]⟩] n) 9)) w.heap.size n n (fun _ => []) := ⟨_, Box.new _ _ _, by rw [size_madeCells], fun j h1 h2 => by omega⟩
/-- A list of numbers that came in. -/
def FInts (w : World) (a : Option Addr) (n : Nat) (F : Nat → Int) : Prop := ∀ i, i < n → ∃ b off, a = some ⟨b, off, none⟩ ∧ w.cell? ⟨b, off + i, none⟩ = some (.int .i64 (F i))
theorem FInts.below {w w' : World} {a : Option Addr} {n : Nat} {F : Nat → Int} (h : FInts w a n F) (hb : Below w.heap.size w w') : FInts w' a n F := fun i hi => by
  obtain ⟨b, off, e, h0⟩ := h i hi
  exact ⟨b, off, e, (hb.cell (World.block_lt_of_cell? w _ h0)).trans h0⟩
theorem cell_setB {W : World} {h D b j : Nat} {v : Value} (hne : b ≠ h) : (W.setCell ⟨h, D, none⟩ v).cell? ⟨b, j, none⟩ = W.cell? ⟨b, j, none⟩ := by
  unfold World.cell?
  rw [Below.heap_setCell _ _ _ _ hne]
theorem wr_succ (d : Nat) (h : d ≤ 64) : wrap64 ((d : Int) + 1) = (d : Int) + 1 := by unfold wrap64; omega
theorem wr_pred (i n : Nat) (h : i < n) (hn : n ≤ 67108864) : wrap64 ((i : Int) - 1) = (i : Int) - 1 := by unfold wrap64; omega
theorem wr_three (v x l : Nat) (hv : v ≤ 67108864) (hx : x ≤ 6) (hl : l ≤ 67108864) : wrap64 ((v : Int) + (x : Int)) = (v : Int) + (x : Int) ∧ wrap64 ((v : Int) + (x : Int) + (l : Int)) = (v : Int) + (x : Int) + (l : Int) := by unfold wrap64; omega
theorem ll_le (n : Nat) : ll n ≤ 4 := by
  rcases ll_cases n with ⟨_, e⟩ | ⟨_, _, e⟩ | ⟨_, _, _, e⟩ | ⟨_, _, _, _, e⟩ | ⟨_, _, _, _, e⟩ <;> omega
/-- What stands in a round: the numbers, the texts, the node's own box. -/
def SpR (w W : World) (g n K : Nat) (σ : List Nat) (H : Nat → List UInt8) (d c : Int) (m : Bool) (t : Int) (s : ByteArray) : Prop := w.heap.size + 1 < g ∧ NumB W (w.heap.size + 1) σ ∧ TxtB W w.heap.size n K H ∧ Box W g 38 #[.int .i64 d, .int .i64 c, .bool m, .int .i64 t, .string s] ∧ Below w.heap.size w W
theorem SpR.of {w W W' : World} {g n K : Nat} {σ : List Nat} {H : Nat → List UInt8} {d c t : Int} {m : Bool} {s : ByteArray} (h : SpR w W g n K σ H d c m t s) (hb : Below W.heap.size W W') : SpR w W' g n K σ H d c m t s := by
  obtain ⟨h0, h1, h2, h3, h4⟩ := h
  exact ⟨h0, h1.of (hb.block _ h1.lt), h2.of (hb.block _ h2.lt), h3.below hb, h4.trans (hb.mono h4.size)⟩
theorem SpR.node {w W : World} {g n K : Nat} {σ : List Nat} {H : Nat → List UInt8} {d c t : Int} {m : Bool} {s : ByteArray} (h : SpR w W g n K σ H d c m t s) : W.cell? ⟨g, 0, none⟩ = some (.int .i64 d) ∧ W.cell? ⟨g, 1, none⟩ = some (.int .i64 c) ∧ W.cell? ⟨g, 2, none⟩ = some (.bool m) ∧ W.cell? ⟨g, 3, none⟩ = some (.int .i64 t) ∧ W.cell? ⟨g, 4, none⟩ = some (.string s) := by
  have hb := h.2.2.2.1
  exact ⟨(at_of hb rfl).1, (at_of hb rfl).1, (at_of hb rfl).1, (at_of hb rfl).1, (at_of hb rfl).1⟩
theorem SpR.num {w W : World} {g n K : Nat} {σ : List Nat} {H : Nat → List UInt8} {d c t : Int} {m : Bool} {s : ByteArray} (h : SpR w W g n K σ H d c m t s) (hl : σ.length = 66) (e : Nat) (he : e < 66) (v : Nat) : SpR w (W.setCell ⟨w.heap.size + 1, e, none⟩ (.int .i64 (v : Int))) g n K (σ.set e v) H d c m t s := by
  obtain ⟨h0, h1, h2, h3, h4⟩ := h
  exact ⟨h0, h1.set hl e he v, h2.of (Below.heap_setCell _ _ _ _ (by show w.heap.size ≠ w.heap.size + 1; omega)), h3.of (Below.heap_setCell _ _ _ _ (by show g ≠ w.heap.size + 1; omega)), Below.setCell (p := ⟨w.heap.size + 1, e, none⟩) h4 (by show w.heap.size ≤ w.heap.size + 1; omega) _⟩
theorem SpR.txt {w W : World} {g n i : Nat} {σ : List Nat} {H : Nat → List UInt8} {d c t : Int} {m : Bool} {s : ByteArray} (h : SpR w W g n (i + 1) σ H d c m t s) (hi : i < n) (x : List UInt8) : SpR w (W.setCell ⟨w.heap.size, i, none⟩ (.string (S x))) g n i σ (updH H i x) d c m t s := by
  obtain ⟨h0, h1, h2, h3, h4⟩ := h
  exact ⟨h0, h1.of (Below.heap_setCell _ _ _ _ (by show w.heap.size + 1 ≠ w.heap.size; omega)), h2.set hi x, h3.of (Below.heap_setCell _ _ _ _ (by show g ≠ w.heap.size; omega)), Below.setCell (p := ⟨w.heap.size, i, none⟩) h4 (Nat.le_refl _) _⟩
end Go.Proofs.YtkiidlnimjjnlaaDoor
