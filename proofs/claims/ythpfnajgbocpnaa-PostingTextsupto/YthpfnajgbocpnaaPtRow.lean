import Derived.Test.YthpfnajgbocpnaaRows
import Derived.Test.YthpfnajgbocpnaaPtMath
import Derived.Test.YthpfnajgbocpnaaPtT
import Derived.Deep.AppendLies
import Derived.Deep.RegionHeld3
import Derived.Deep.RegionHeldLaw
import Derived.Great.BuildSlice
import Derived.BigQuiet
import Derived.KernelRfl
import Derived.Sort.OwnSorted
namespace Go.Proofs.Ythpfnajgbocpnaa
namespace Pt
open Go.RowKit Go.Sort Go.Lib
open PtMath (Inc setOf cnt)
set_option linter.unusedVariables false
set_option maxRecDepth 100000
open PtT (Rk TB en)
variable {Tk : PtT.Rk}

theorem add_off (b o j : Nat) : (⟨b, o, none⟩ : Addr).add j = ⟨b, o + j, none⟩ := by
  unfold Addr.add
  by_cases h : j = 0
  · subst h; rfl
  · simp [h]
/-- Numbers as cells. -/
def iv (Tk : PtT.Rk) (l : List Nat) : List Value := l.map ((en Tk))
theorem iv_len (l : List Nat) : (iv Tk l).length = l.length := by simp [iv]
theorem iv_app (l k : List Nat) : iv Tk (l ++ k) = iv Tk l ++ iv Tk k := by simp [iv]
theorem iv_one (l : List Nat) : ∀ u ∈ iv Tk l, u.oneCell' = true := by
  intro u hu
  simp only [iv, List.mem_map] at hu
  obtain ⟨b, _, rfl⟩ := hu
  rfl
theorem info_i64 : (Try.prog.info? 9).map (fun i => (i.zero, i.size, i.bytes)) = some (some (.string ⟨#[]⟩), 1, 16) := by kernel_rfl
/-- A list of numbers of the call's own. -/
def OwnI (Tk : PtT.Rk) (W : World) (B : Nat) (v : Value) (l : List Nat) : Prop := W.ownsRow B 9 1 v l.length (iv Tk l)
theorem ownI_nil (W : World) (B : Nat) : OwnI Tk W B (.slice none 0 0) [] := ⟨rfl, Or.inl ⟨rfl, rfl⟩⟩
theorem ownI_base {w : World} {B C : Nat} {v : Value} {l : List Nat} (h : OwnI Tk w B v l) (hc : C ≤ B) : OwnI Tk w C v l := by
  rcases h with ⟨h1, ⟨rfl, h2⟩ | ⟨g, cap, cur, rfl, h3, h4⟩⟩
  · exact ⟨h1, Or.inl ⟨rfl, h2⟩⟩
  · exact ⟨h1, Or.inr ⟨g, cap, cur, rfl, Nat.le_trans hc h3, h4⟩⟩
theorem ownI_below {w w' : World} {B : Nat} {v : Value} {l : List Nat} (h : OwnI Tk w B v l) (hb : Below w.heap.size w w') : OwnI Tk w' B v l := by
  rcases h with ⟨h1, ⟨rfl, h2⟩ | ⟨g, cap, cur, rfl, h3, h4, h5⟩⟩
  · exact ⟨h1, Or.inl ⟨rfl, h2⟩⟩
  · have hg : g < w.heap.size := (Array.getElem?_eq_some_iff.1 h4).1
    exact ⟨h1, Or.inr ⟨g, cap, cur, rfl, h3, by rw [hb.block g hg]; exact h4, h5⟩⟩
theorem ownI_form {w : World} {B : Nat} {v : Value} {l : List Nat} (h : OwnI Tk w B v l) : (v = .slice none 0 0 ∧ l = []) ∨ (∃ g cap, v = .slice (some ⟨g, 0, none⟩) l.length cap ∧ l.length ≤ cap ∧ cap ≤ maxLen ∧ g < w.heap.size ∧ B ≤ g) := by
  have hl := h.1
  rcases h.2 with ⟨rfl, hn⟩ | ⟨g, cap, cur, rfl, h3, h4, h5, h6, _⟩
  · exact Or.inl ⟨rfl, List.eq_nil_of_length_eq_zero hn⟩
  · exact Or.inr ⟨g, cap, rfl, h5, h6, (Array.getElem?_eq_some_iff.1 h4).1, h3⟩
theorem ownI_cell {w : World} {B g cap : Nat} {l : List Nat} (h : OwnI Tk w B (.slice (some ⟨g, 0, none⟩) l.length cap) l) (i : Nat) (hi : i < l.length) : w.cell? ⟨g, i, none⟩ = some (.string (TB Tk l[i])) := by
  have hc := World.ownsRow.cellAt (show w.ownsRow B 9 1 _ l.length (iv Tk l) from h) i (by omega)
  rw [hc]
  simp [iv, hi]
/-- A row of numbers, wherever it lies. -/
def NRow (Tk : PtT.Rk) (w : World) (a : Option Addr) (l : List Nat) : Prop := ∀ i (hi : i < l.length), ∃ b off, a = some ⟨b, off, none⟩ ∧ w.cell? ⟨b, off + i, none⟩ = some (.string (TB Tk l[i]))
theorem NRow.below {w w' : World} {a : Option Addr} {l : List Nat} (h : NRow Tk w a l) (hb : Below w.heap.size w w') : NRow Tk w' a l := fun i hi => by
  obtain ⟨b, off, e, h1⟩ := h i hi
  refine ⟨b, off, e, ?_⟩
  rw [hb.cell (World.block_lt_of_cell? w _ h1)]
  exact h1
theorem NRow.of_block {w w' : World} {a : Option Addr} {l : List Nat} (h : NRow Tk w a l) (hb : ∀ g, a.map Addr.block = some g → g < w.heap.size → w'.heap[g]? = w.heap[g]?) : NRow Tk w' a l := fun i hi => by
  obtain ⟨b, off, e, h1⟩ := h i hi
  refine ⟨b, off, e, ?_⟩
  rw [World.cell?_of_block (w := w) (hb b (by rw [e]; rfl) (World.block_lt_of_cell? w _ h1))]
  exact h1
theorem NRow.drewN {w : World} {a : Option Addr} {l : List Nat} (h : NRow Tk w a l) (k : Nat) : NRow Tk (w.drewN k) a l := fun i hi => by
  obtain ⟨b, off, e, h1⟩ := h i hi
  exact ⟨b, off, e, h1⟩
theorem NRow.nil (w : World) (a : Option Addr) : NRow Tk w a [] := fun i hi => by simp at hi
theorem ownI_row {w : World} {B n c : Nat} {a : Option Addr} {l : List Nat} (h : OwnI Tk w B (.slice a n c) l) : NRow Tk w a l ∧ n = l.length := by
  rcases ownI_form h with ⟨h1, rfl⟩ | ⟨g, cap, h1, _⟩
  · injection h1 with h1 h2
    exact ⟨NRow.nil _ _, h2⟩
  · injection h1 with h1 h2 h3
    subst h1 h2 h3
    exact ⟨fun i hi => ⟨g, 0, rfl, by rw [Nat.zero_add]; exact ownI_cell h i hi⟩, rfl⟩
theorem ownI_slice {w : World} {B : Nat} {v : Value} {l : List Nat} (h : OwnI Tk w B v l) : ∃ a n c, v = .slice a n c := by
  rcases ownI_form h with ⟨h1, _⟩ | ⟨g, cap, h1, _⟩
  · exact ⟨_, _, _, h1⟩
  · exact ⟨_, _, _, h1⟩
/-- A row appended to a row of the call's own. -/
theorem appendI_row (w : World) (B : Nat) (v : Value) (l k : List Nat) (a : Option Addr) (n c : Nat) (hown : OwnI Tk w B v l) (hk : NRow Tk w a k) (hn : n = k.length) (hB : B ≤ w.heap.size) (hsz : (l.length + k.length) * 16 ≤ 140737488355328) :
    ∃ v' w', (Builtin.append_ #[23, 23] 23 #[v, .slice a n c]).run Try.prog w = .ok v' w' ∧ OwnI Tk w' B v' (l ++ k) ∧ Below B w w' := by
  subst hn
  obtain ⟨i0, hi, hz0, hz1, hz2⟩ := info_parts info_i64
  by_cases h0 : k.length = 0
  · have hk0 := List.eq_nil_of_length_eq_zero h0
    subst hk0
    refine ⟨v, w, ?_, by rw [List.append_nil]; exact hown, Below.refl _ _⟩
    cases a with
    | none =>
      rcases ownI_form hown with ⟨rfl, rfl⟩ | ⟨g, cap, rfl, hc, _⟩
      · simp [Builtin.append_, run_underlying Try.underlying23, sizeOf, typeInfo, hi, Builtin.lenOf, Builtin.firstCells]
      · simp [Builtin.append_, run_underlying Try.underlying23, sizeOf, typeInfo, hi, Builtin.lenOf, Builtin.firstCells, hc, storeCells]
    | some d =>
      rcases ownI_form hown with ⟨rfl, rfl⟩ | ⟨g, cap, rfl, hc, _⟩
      · simp [Builtin.append_, run_underlying Try.underlying23, sizeOf, typeInfo, hi, Builtin.lenOf, Builtin.firstCells, loadCells, loadCellsFrom]
      · simp [Builtin.append_, run_underlying Try.underlying23, sizeOf, typeInfo, hi, Builtin.lenOf, Builtin.firstCells, loadCells, loadCellsFrom, hc, storeCells]
  · obtain ⟨b, off, rfl, _⟩ := hk 0 (by omega)
    have hnews : ∀ j u, (iv Tk k)[j]? = some u → w.cell? ((⟨b, off, none⟩ : Addr).add j) = some u := by
      intro j u hj
      have hjn : j < k.length := by
        rcases Nat.lt_or_ge j k.length with h' | h'
        · exact h'
        · rw [List.getElem?_eq_none (by rw [iv_len]; exact h')] at hj; cases hj
      obtain ⟨b', off', e, hc⟩ := hk j hjn
      injection e with e
      injection e with e1 e2
      subst e1 e2
      rw [add_off, hc, ← hj]
      simp [iv, hjn]
    obtain ⟨g, cap, w', hr, h2, h3, _, _⟩ := run_append_lies (P := Try.prog) w 23 23 B 9 i0 _ 1 16 Try.underlying23 hi hz0 hz1 hz2 rfl (by decide) v l.length (iv Tk l) hown ⟨b, off, none⟩ k.length c (iv Tk k) (by rw [iv_len, Nat.mul_one]) hnews (iv_one _) (by omega) (by unfold maxLen; omega) hsz hB w.heap.size rfl
    refine ⟨_, w', hr, ?_, (Below.refl _ _).grown h3 hB (fun j hj => (World.ownsRow.lt (show w.ownsRow B 9 1 v l.length (iv Tk l) from hown) _ hj).1)⟩
    unfold OwnI
    rw [iv_app, List.length_append]
    exact h2
end Pt
end Go.Proofs.Ythpfnajgbocpnaa
