import Derived.Test.YtdbhcemmaahemaaRows
import Derived.Test.YtdbhcemmaahemaaPgMath
import Derived.Deep.AppendLies
import Derived.Deep.RegionHeld3
import Derived.Deep.RegionHeldLaw
import Derived.Great.BuildSlice
import Derived.BigQuiet
import Derived.KernelRfl
import Derived.Sort.OwnSorted
namespace Go.Proofs.Ytdbhcemmaahemaa
open Go.RowKit Go.Sort Go.Lib
open PgMath (Inc setOf cnt)
set_option linter.unusedVariables false
set_option maxRecDepth 100000

theorem add_off (b o j : Nat) : (⟨b, o, none⟩ : Addr).add j = ⟨b, o + j, none⟩ := by
  unfold Addr.add
  by_cases h : j = 0
  · subst h; rfl
  · simp [h]
/-- Numbers as cells. -/
def iv (l : List Int) : List Value := l.map (Value.int .i64)
theorem iv_len (l : List Int) : (iv l).length = l.length := by simp [iv]
theorem iv_app (l k : List Int) : iv (l ++ k) = iv l ++ iv k := by simp [iv]
theorem iv_one (l : List Int) : ∀ u ∈ iv l, u.oneCell' = true := by
  intro u hu
  simp only [iv, List.mem_map] at hu
  obtain ⟨b, _, rfl⟩ := hu
  rfl
theorem info_i64 : (Try.prog.info? 2).map (fun i => (i.zero, i.size, i.bytes)) = some (some (.int .i64 0), 1, 8) := by kernel_rfl
/-- A list of numbers of the call's own. -/
def OwnI (W : World) (B : Nat) (v : Value) (l : List Int) : Prop := W.ownsRow B 2 1 v l.length (iv l)
theorem ownI_nil (W : World) (B : Nat) : OwnI W B (.slice none 0 0) [] := ⟨rfl, Or.inl ⟨rfl, rfl⟩⟩
theorem ownI_base {w : World} {B C : Nat} {v : Value} {l : List Int} (h : OwnI w B v l) (hc : C ≤ B) : OwnI w C v l := by
  rcases h with ⟨h1, ⟨rfl, h2⟩ | ⟨g, cap, cur, rfl, h3, h4⟩⟩
  · exact ⟨h1, Or.inl ⟨rfl, h2⟩⟩
  · exact ⟨h1, Or.inr ⟨g, cap, cur, rfl, Nat.le_trans hc h3, h4⟩⟩
theorem ownI_below {w w' : World} {B : Nat} {v : Value} {l : List Int} (h : OwnI w B v l) (hb : Below w.heap.size w w') : OwnI w' B v l := by
  rcases h with ⟨h1, ⟨rfl, h2⟩ | ⟨g, cap, cur, rfl, h3, h4, h5⟩⟩
  · exact ⟨h1, Or.inl ⟨rfl, h2⟩⟩
  · have hg : g < w.heap.size := (Array.getElem?_eq_some_iff.1 h4).1
    exact ⟨h1, Or.inr ⟨g, cap, cur, rfl, h3, by rw [hb.block g hg]; exact h4, h5⟩⟩
theorem ownI_form {w : World} {B : Nat} {v : Value} {l : List Int} (h : OwnI w B v l) : (v = .slice none 0 0 ∧ l = []) ∨ (∃ g cap, v = .slice (some ⟨g, 0, none⟩) l.length cap ∧ l.length ≤ cap ∧ cap ≤ maxLen ∧ g < w.heap.size ∧ B ≤ g) := by
  have hl := h.1
  rcases h.2 with ⟨rfl, hn⟩ | ⟨g, cap, cur, rfl, h3, h4, h5, h6, _⟩
  · exact Or.inl ⟨rfl, List.eq_nil_of_length_eq_zero hn⟩
  · exact Or.inr ⟨g, cap, rfl, h5, h6, (Array.getElem?_eq_some_iff.1 h4).1, h3⟩
theorem ownI_cell {w : World} {B g cap : Nat} {l : List Int} (h : OwnI w B (.slice (some ⟨g, 0, none⟩) l.length cap) l) (i : Nat) (hi : i < l.length) : w.cell? ⟨g, i, none⟩ = some (.int .i64 l[i]) := by
  have hc := World.ownsRow.cellAt (show w.ownsRow B 2 1 _ l.length (iv l) from h) i (by omega)
  rw [hc]
  simp [iv, hi]
/-- A row of numbers, wherever it lies. -/
def NRow (w : World) (a : Option Addr) (l : List Int) : Prop := ∀ i (hi : i < l.length), ∃ b off, a = some ⟨b, off, none⟩ ∧ w.cell? ⟨b, off + i, none⟩ = some (.int .i64 l[i])
theorem NRow.below {w w' : World} {a : Option Addr} {l : List Int} (h : NRow w a l) (hb : Below w.heap.size w w') : NRow w' a l := fun i hi => by
  obtain ⟨b, off, e, h1⟩ := h i hi
  refine ⟨b, off, e, ?_⟩
  rw [hb.cell (World.block_lt_of_cell? w _ h1)]
  exact h1
theorem NRow.of_block {w w' : World} {a : Option Addr} {l : List Int} (h : NRow w a l) (hb : ∀ g, a.map Addr.block = some g → g < w.heap.size → w'.heap[g]? = w.heap[g]?) : NRow w' a l := fun i hi => by
  obtain ⟨b, off, e, h1⟩ := h i hi
  refine ⟨b, off, e, ?_⟩
  rw [World.cell?_of_block (w := w) (hb b (by rw [e]; rfl) (World.block_lt_of_cell? w _ h1))]
  exact h1
theorem NRow.drewN {w : World} {a : Option Addr} {l : List Int} (h : NRow w a l) (k : Nat) : NRow (w.drewN k) a l := fun i hi => by
  obtain ⟨b, off, e, h1⟩ := h i hi
  exact ⟨b, off, e, h1⟩
theorem NRow.nil (w : World) (a : Option Addr) : NRow w a [] := fun i hi => by simp at hi
theorem ownI_row {w : World} {B n c : Nat} {a : Option Addr} {l : List Int} (h : OwnI w B (.slice a n c) l) : NRow w a l ∧ n = l.length := by
  rcases ownI_form h with ⟨h1, rfl⟩ | ⟨g, cap, h1, _⟩
  · injection h1 with h1 h2
    exact ⟨NRow.nil _ _, h2⟩
  · injection h1 with h1 h2 h3
    subst h1 h2 h3
    exact ⟨fun i hi => ⟨g, 0, rfl, by rw [Nat.zero_add]; exact ownI_cell h i hi⟩, rfl⟩
theorem ownI_slice {w : World} {B : Nat} {v : Value} {l : List Int} (h : OwnI w B v l) : ∃ a n c, v = .slice a n c := by
  rcases ownI_form h with ⟨h1, _⟩ | ⟨g, cap, h1, _⟩
  · exact ⟨_, _, _, h1⟩
  · exact ⟨_, _, _, h1⟩
/-- A row appended to a row of the call's own. -/
theorem appendI_row (w : World) (B : Nat) (v : Value) (l k : List Int) (a : Option Addr) (n c : Nat) (hown : OwnI w B v l) (hk : NRow w a k) (hn : n = k.length) (hB : B ≤ w.heap.size) (hsz : (l.length + k.length) * 8 ≤ 140737488355328) :
    ∃ v' w', (Builtin.append_ #[35, 35] 35 #[v, .slice a n c]).run Try.prog w = .ok v' w' ∧ OwnI w' B v' (l ++ k) ∧ Below B w w' := by
  subst hn
  obtain ⟨i0, hi, hz0, hz1, hz2⟩ := info_parts info_i64
  by_cases h0 : k.length = 0
  · have hk0 := List.eq_nil_of_length_eq_zero h0
    subst hk0
    refine ⟨v, w, ?_, by rw [List.append_nil]; exact hown, Below.refl _ _⟩
    cases a with
    | none =>
      rcases ownI_form hown with ⟨rfl, rfl⟩ | ⟨g, cap, rfl, hc, _⟩
      · simp [Builtin.append_, run_underlying Try.underlying35, sizeOf, typeInfo, hi, Builtin.lenOf, Builtin.firstCells]
      · simp [Builtin.append_, run_underlying Try.underlying35, sizeOf, typeInfo, hi, Builtin.lenOf, Builtin.firstCells, hc, storeCells]
    | some d =>
      rcases ownI_form hown with ⟨rfl, rfl⟩ | ⟨g, cap, rfl, hc, _⟩
      · simp [Builtin.append_, run_underlying Try.underlying35, sizeOf, typeInfo, hi, Builtin.lenOf, Builtin.firstCells, loadCells, loadCellsFrom]
      · simp [Builtin.append_, run_underlying Try.underlying35, sizeOf, typeInfo, hi, Builtin.lenOf, Builtin.firstCells, loadCells, loadCellsFrom, hc, storeCells]
  · obtain ⟨b, off, rfl, _⟩ := hk 0 (by omega)
    have hnews : ∀ j u, (iv k)[j]? = some u → w.cell? ((⟨b, off, none⟩ : Addr).add j) = some u := by
      intro j u hj
      have hjn : j < k.length := by
        rcases Nat.lt_or_ge j k.length with h' | h'
        · exact h'
        · rw [List.getElem?_eq_none (by rw [iv_len]; exact h')] at hj; cases hj
      obtain ⟨b', off', e, hc⟩ := hk j hjn
      injection e with e
      injection e with e1 e2
      subst e1 e2
      rw [add_off, hc, ← hj]
      simp [iv, hjn]
    obtain ⟨g, cap, w', hr, h2, h3, _, _⟩ := run_append_lies (P := Try.prog) w 35 35 B 2 i0 _ 1 8 Try.underlying35 hi hz0 hz1 hz2 rfl (by decide) v l.length (iv l) hown ⟨b, off, none⟩ k.length c (iv k) (by rw [iv_len, Nat.mul_one]) hnews (iv_one _) (by omega) (by unfold maxLen; omega) hsz hB w.heap.size rfl
    refine ⟨_, w', hr, ?_, (Below.refl _ _).grown h3 hB (fun j hj => (World.ownsRow.lt (show w.ownsRow B 2 1 v l.length (iv l) from hown) _ hj).1)⟩
    unfold OwnI
    rw [iv_app, List.length_append]
    exact h2
/-! A row that the library has sorted, or cut. -/
theorem holdsI {w : World} {B g cap : Nat} {l : List Int} (h : OwnI w B (.slice (some ⟨g, 0, none⟩) l.length cap) l) : Holds (Value.int .i64) w g 0 l.toArray := by
  intro j hj
  have hj' : j < l.length := by simpa using hj
  rw [Nat.zero_add, ownI_cell h j hj']
  refine ⟨by rw [PgMath.get_bang l j hj'], ?_⟩
  rcases h.2 with ⟨e, _⟩ | ⟨g', cap', cur, e, _, hb, _⟩
  · cases e
  · cases e
    simp [World.frozen?, hb]
theorem putI_heap {w : World} {g n : Nat} {os : Array Obj} {cur : Array Value} {e : TypeId} {fr : Nat × Nat} (d : Array Int) (hb : w.heap[g]? = some (.cells cur e fr)) :
    (grow (putRow (Value.int .i64) (Sort.ahead w n) g 0 d) os).heap[g]? = some (.cells (putCells (Value.int .i64) 0 d cur) e fr) := by
  have hg : g < w.heap.size := (Array.getElem?_eq_some_iff.1 hb).1
  rw [heap_grow_old _ _ (by simpa using hg)]
  simp [putRow, mapBlock, Sort.ahead, Array.getElem?_modify, hb, onCells]
theorem putI_grown {w : World} {g n : Nat} {os : Array Obj} (d : Array Int) : w.grownBy (grow (putRow (Value.int .i64) (Sort.ahead w n) g 0 d) os) (some g) := by
  refine ⟨rfl, rfl, rfl, by simp, fun k hk hne => ?_⟩
  rw [heap_grow_old _ _ (by simpa using hk)]
  have : g ≠ k := fun e => hne (by rw [e])
  simp [putRow, mapBlock, Sort.ahead, Array.getElem?_modify, this]
theorem putI_own {w : World} {B g cap n : Nat} {os : Array Obj} {l t z : List Int} (h : OwnI w B (.slice (some ⟨g, 0, none⟩) l.length cap) l) (hl : (t ++ z).length ≤ l.length) :
    OwnI (grow (putRow (Value.int .i64) (Sort.ahead w n) g 0 (t ++ z).toArray) os) B (.slice (some ⟨g, 0, none⟩) t.length cap) t := by
  rcases h.2 with ⟨e, _⟩ | ⟨g', cap', cur, e, h3, hb, h5, h6, h7, h8⟩
  · cases e
  · cases e
    rw [List.length_append] at hl
    refine ⟨by simp [iv], Or.inr ⟨g, cap, _, rfl, h3, putI_heap _ hb, by omega, h6, by simp [putCells, h7], ?_⟩⟩
    rw [Nat.mul_one]
    apply List.ext_getElem?
    intro j
    by_cases hj : j < t.length
    · rw [List.getElem?_take_of_lt hj, Array.getElem?_toList]
      simp [putCells, iv, hj, show j < cur.size by omega, show j < t.length + z.length by omega]
    · rw [List.getElem?_take_eq_none (by omega), List.getElem?_eq_none (by simp [iv]; omega)]
theorem grow_none (w : World) : grow w #[] = w := by simp [grow]
end Go.Proofs.Ytdbhcemmaahemaa
