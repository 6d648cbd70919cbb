import Derived.Test.YtnjakapoggjicaaDoorAtEqS
import Derived.Deep.AppendLies
import Derived.Great.BuildSlice
import Derived.BigQuiet
import Derived.KernelRfl
import Derived.Deep.WholeRow
import Derived.Deep.RegionHeld3
import Derived.Deep.RegionHeldLaw
import Derived.Deep.DeepCutAuto
import Derived.Lib.OthersKept
import Derived.Lib.AppendZeros
import Derived.Laws.StructEq
namespace Go.Proofs.YtnjakapoggjicaaDoor
open Go.RowKit

theorem ownS_below {w w' : World} {B : Nat} {v : Value} {l : List (List UInt8)} (h : OwnS w B v l) (hb : Below w.heap.size w w') : OwnS w' B v l := by
  rcases h with ⟨h1, ⟨rfl, h2⟩ | ⟨g, cap, cur, rfl, h3, h4, h5⟩⟩
  · exact ⟨h1, Or.inl ⟨rfl, h2⟩⟩
  · have hg : g < w.heap.size := by
      rcases Nat.lt_or_ge g w.heap.size with h' | h'
      · exact h'
      · rw [Array.getElem?_eq_none h'] at h4; cases h4
    exact ⟨h1, Or.inr ⟨g, cap, cur, rfl, h3, by rw [hb.block g hg]; exact h4, h5⟩⟩
theorem ownS_formD {w : World} {B : Nat} {v : Value} {l : List (List UInt8)} (h : OwnS w B v l) : (v = .slice none 0 0 ∧ l = []) ∨ (∃ g cap, v = .slice (some ⟨g, 0, none⟩) l.length cap ∧ l.length ≤ cap ∧ g < w.heap.size ∧ B ≤ g) := by
  have hl := h.1
  rcases h.2 with ⟨rfl, hn⟩ | ⟨g, cap, cur, rfl, h3, h4, h5, _⟩
  · exact Or.inl ⟨rfl, List.eq_nil_of_length_eq_zero hn⟩
  · refine Or.inr ⟨g, cap, rfl, h5, ?_, h3⟩
    rcases Nat.lt_or_ge g w.heap.size with h' | h'
    · exact h'
    · rw [Array.getElem?_eq_none h'] at h4; cases h4
theorem Row.drewN {w : World} {a : Option Addr} {l : List (List UInt8)} (h : Row w a l) (k : Nat) : Row (w.drewN k) a l := fun i hi => by
  obtain ⟨b, off, e, h1⟩ := h i hi
  exact ⟨b, off, e, h1⟩
theorem Row.front {w : World} {a : Option Addr} {l k : List (List UInt8)} (h : Row w a (l ++ k)) : Row w a l := fun i hi => by
  obtain ⟨b, off, e, h1⟩ := h i (by rw [List.length_append]; omega)
  refine ⟨b, off, e, ?_⟩
  rw [h1, List.getElem_append_left hi]
theorem Row.nil (w : World) (a : Option Addr) : Row w a [] := fun i hi => by simp at hi
theorem ownS_row {w : World} {B n c : Nat} {a : Option Addr} {l : List (List UInt8)} (h : OwnS w B (.slice a n c) l) : Row w a l ∧ n = l.length := by
  rcases ownS_formD h with ⟨h1, rfl⟩ | ⟨g, cap, h1, _⟩
  · injection h1 with h1 h2
    exact ⟨Row.nil _ _, h2⟩
  · injection h1 with h1 h2 h3
    subst h1 h2 h3
    exact ⟨fun i hi => ⟨g, 0, rfl, by rw [Nat.zero_add]; exact ownS_cell h i hi⟩, rfl⟩
/-- A row appended to a row of the call's own. -/
theorem append_row (w : World) (B : Nat) (v : Value) (l k : List (List UInt8)) (a : Option Addr) (n c : Nat) (hown : OwnS w B v l) (hk : Row w a k) (hn : n = k.length) (hB : B ≤ w.heap.size) (hsz : (l.length + k.length) * 16 ≤ 140737488355328) :
    ∃ v' w', (Builtin.append_ #[22, 22] 22 #[v, .slice a n c]).run Tryd.prog w = .ok v' w' ∧ OwnS w' B v' (l ++ k) ∧ Below B w w' := by
  subst hn
  obtain ⟨i0, hi, hz0, hz1, hz2⟩ := info_parts info_str
  by_cases h0 : k.length = 0
  · have hk0 := List.eq_nil_of_length_eq_zero h0
    subst hk0
    refine ⟨v, w, ?_, by rw [List.append_nil]; exact hown, Below.refl _ _⟩
    cases a with
    | none =>
      rcases ownS_formD hown with ⟨rfl, rfl⟩ | ⟨g, cap, rfl, hc, _⟩
      · simp [Builtin.append_, run_underlying Tryd.underlying22, sizeOf, typeInfo, hi, Builtin.lenOf, Builtin.firstCells]
      · simp [Builtin.append_, run_underlying Tryd.underlying22, sizeOf, typeInfo, hi, Builtin.lenOf, Builtin.firstCells, hc, storeCells]
    | some d =>
      rcases ownS_formD hown with ⟨rfl, rfl⟩ | ⟨g, cap, rfl, hc, _⟩
      · simp [Builtin.append_, run_underlying Tryd.underlying22, sizeOf, typeInfo, hi, Builtin.lenOf, Builtin.firstCells, loadCells, loadCellsFrom]
      · simp [Builtin.append_, run_underlying Tryd.underlying22, sizeOf, typeInfo, hi, Builtin.lenOf, Builtin.firstCells, loadCells, loadCellsFrom, hc, storeCells]
  · obtain ⟨b, off, rfl, _⟩ := hk 0 (by omega)
    have hnews : ∀ j u, (sv k)[j]? = some u → w.cell? ((⟨b, off, none⟩ : Addr).add j) = some u := by
      intro j u hj
      have hjn : j < k.length := by
        rcases Nat.lt_or_ge j k.length with h' | h'
        · exact h'
        · rw [List.getElem?_eq_none (by rw [sv_len]; exact h')] at hj; cases hj
      obtain ⟨b', off', e, hc⟩ := hk j hjn
      injection e with e
      injection e with e1 e2
      subst e1 e2
      rw [add_off, hc, ← hj]
      simp [sv, hjn]
    obtain ⟨g, cap, w', hr, h2, h3, _, _⟩ := run_append_lies (P := Tryd.prog) w 22 22 B 9 i0 _ 1 16 Tryd.underlying22 hi hz0 hz1 hz2 rfl (by decide) v l.length (sv l) hown ⟨b, off, none⟩ k.length c (sv k) (by rw [sv_len, Nat.mul_one]) hnews (sv_one _) (by omega) (by unfold maxLen; omega) hsz hB w.heap.size rfl
    refine ⟨_, w', hr, ?_, (Below.refl _ _).grown h3 hB (fun j hj => (World.ownsRow.lt (show w.ownsRow B 9 1 v l.length (sv l) from hown) _ hj).1)⟩
    unfold OwnS
    rw [sv_app, List.length_append]
    exact h2
end Go.Proofs.YtnjakapoggjicaaDoor

namespace Go.Proofs.YtnjakapoggjicaaDoor
open Go.RowKit
set_option linter.unusedVariables false

/-- A block whose cells are known, all of them. -/
def Box (W : World) (g : Nat) (t : TypeId) (cs : Array Value) : Prop := W.heap[g]? = some (.cells cs t (0, 0))
theorem Box.cell {W : World} {g : Nat} {t : TypeId} {cs : Array Value} (h : Box W g t cs) (j : Nat) (hj : j < cs.size) : W.cell? ⟨g, j, none⟩ = some cs[j] ∧ W.frozen? ⟨g, j, none⟩ = false := by
  refine ⟨?_, Go.frozen_of_row _ _ _ _ _ h⟩
  rw [cell_of_row W g j cs t (0, 0) h]
  simp [hj]
theorem Box.of {W W' : World} {g : Nat} {t : TypeId} {cs : Array Value} (h : Box W g t cs) (e : W'.heap[g]? = W.heap[g]?) : Box W' g t cs := e.trans h
theorem Box.set {W : World} {g : Nat} {t : TypeId} {cs : Array Value} (h : Box W g t cs) (j : Nat) (u : Value) : Box (W.setCell ⟨g, j, none⟩ u) g t (cs.setIfInBounds j u) := Go.heap_setCell_same _ _ _ _ _ _ h
theorem Box.lt {W : World} {g : Nat} {t : TypeId} {cs : Array Value} (h : Box W g t cs) : g < W.heap.size := (Array.getElem?_eq_some_iff.1 h).1
theorem Box.new (W : World) (t : TypeId) (cs : Array Value) : Box (W.alloc (.cells cs t)) W.heap.size t cs := heap_alloc_last W _
theorem Box.past {W : World} {g : Nat} {t : TypeId} {cs : Array Value} (h : Box W g t cs) (o : _) : Box (W.alloc o) g t cs := h.of (Below.heap_alloc _ _ _ h.lt)
theorem Box.below {W W' : World} {g : Nat} {t : TypeId} {cs : Array Value} (h : Box W g t cs) (hb : Below W.heap.size W W') : Box W' g t cs := h.of (hb.block g h.lt)
theorem results_cell (fn : Func) (t : Tmp) (ty : TypeId) (h : fn.results = #[.cell t ty]) (tmps : Array Value) (P : Program) (w : World) (p : Addr) (x : Value) (hp : tmps.getD t undef = .pointer (some p)) (hl : (loadVar ty p).run P w = .ok x w) :
    (results fn tmps).run P w = .ok x w := by
  have hp' : tmps[t]?.getD undef = .pointer (some p) := by rw [← hp]; simp
  simp [results, h, hp', asAddr, hl]

theorem owns_same {w w' : World} {B k n : Nat} {e : TypeId} {v : Value} {xs : List Value} (h : w.ownsRow B e k v n xs) (hb : ∀ g, v.ownBlock = some g → w'.heap[g]? = w.heap[g]?) : w'.ownsRow B e k v n xs := by
  rcases h with ⟨h1, ⟨rfl, h2⟩ | ⟨g, cap, cur, rfl, h3, h4, h5⟩⟩
  · exact ⟨h1, Or.inl ⟨rfl, h2⟩⟩
  · exact ⟨h1, Or.inr ⟨g, cap, cur, rfl, h3, by rw [hb g rfl]; exact h4, h5⟩⟩
theorem owns_base {w : World} {B B' k n : Nat} {e : TypeId} {v : Value} {xs : List Value} (h : w.ownsRow B e k v n xs) (hb : B' ≤ B) : w.ownsRow B' e k v n xs := by
  rcases h with ⟨h1, ⟨rfl, h2⟩ | ⟨g, cap, cur, rfl, h3, h4, h5⟩⟩
  · exact ⟨h1, Or.inl ⟨rfl, h2⟩⟩
  · exact ⟨h1, Or.inr ⟨g, cap, cur, rfl, Nat.le_trans hb h3, h4, h5⟩⟩
theorem owns_form {w : World} {B k n : Nat} {e : TypeId} {v : Value} {xs : List Value} (h : w.ownsRow B e k v n xs) : (v = .slice none 0 0 ∧ n = 0) ∨ (∃ g cap, v = .slice (some ⟨g, 0, none⟩) n cap ∧ n ≤ cap ∧ B ≤ g ∧ g < w.heap.size) := by
  rcases h with ⟨h1, ⟨rfl, h2⟩ | ⟨g, cap, cur, rfl, h3, h4, h5, _⟩⟩
  · exact Or.inl ⟨rfl, h2⟩
  · exact Or.inr ⟨g, cap, rfl, h5, h3, (Array.getElem?_eq_some_iff.1 h4).1⟩
theorem owns_slice {w : World} {B k n : Nat} {e : TypeId} {v : Value} {xs : List Value} (h : w.ownsRow B e k v n xs) : ∃ a c, v = .slice a n c ∧ n ≤ c := by
  rcases owns_form h with ⟨rfl, rfl⟩ | ⟨g, cap, rfl, h, _⟩
  · exact ⟨_, _, rfl, Nat.le_refl _⟩
  · exact ⟨_, _, rfl, h⟩
theorem owns_cap {w : World} {B k n m c : Nat} {a : Option Addr} {e : TypeId} {xs : List Value} (h : w.ownsRow B e k (.slice a m c) n xs) : m = n ∧ n ≤ c := by
  obtain ⟨a', c', hv, hc⟩ := owns_slice h
  injection hv with _ h1 h2
  subst h2
  exact ⟨h1, hc⟩
/-- A box of one type is no row of another. -/
theorem box_apart {w : World} {B k n g : Nat} {e t : TypeId} {v : Value} {xs : List Value} {cs : Array Value} (hb : Box w g t cs) (h : w.ownsRow B e k v n xs) (hne : e ≠ t) : v.ownBlock ≠ some g := fun hg => by
  rcases h with ⟨h1, ⟨rfl, h2⟩ | ⟨g', cap, cur, rfl, h3, h4, h5, _⟩⟩
  · cases hg
  · injection hg with hg
    subst hg
    rw [hb] at h4
    injection h4 with h4
    injection h4 with _ h4 _
    exact hne h4.symm
theorem owns_apart {w : World} {B B' k k' n n' : Nat} {e e' : TypeId} {v v' : Value} {xs xs' : List Value} (h : w.ownsRow B e k v n xs) (h' : w.ownsRow B' e' k' v' n' xs') (hne : e ≠ e') {g : Nat} (hg : v.ownBlock = some g) : v'.ownBlock ≠ some g := by
  rcases h with ⟨h1, ⟨rfl, h2⟩ | ⟨g', cap, cur, rfl, h3, h4, h5, _⟩⟩
  · cases hg
  · injection hg with hg
    subst hg
    exact box_apart (show Box w g' e cur from h4) h' (Ne.symm hne)

/-- The mark behind a list. -/
def spr : List UInt8 := [115, 112, 97, 114, 101, 32, 114, 111, 111, 109]
/-- A list of texts that lies marked. -/
def Mkd (W : World) (B g cap : Nat) (l : List (List UInt8)) : Prop := OwnS W B (.slice (some ⟨g, 0, none⟩) (l.length + 1) cap) (l ++ [spr])
theorem Mkd.lt {W : World} {B g cap : Nat} {l : List (List UInt8)} (h : Mkd W B g cap l) : B ≤ g ∧ g < W.heap.size ∧ l.length + 1 ≤ cap := by
  rcases owns_form (show W.ownsRow B 9 1 _ _ _ from h) with ⟨h1, _⟩ | ⟨g', cap', h1, h2, h3, h4⟩
  · cases h1
  · injection h1 with h1 _ h5
    injection h1 with h1
    injection h1 with h1
    subst h1 h5
    rw [List.length_append] at h2
    exact ⟨h3, h4, h2⟩
theorem Mkd.of {W W' : World} {B g cap : Nat} {l : List (List UInt8)} (h : Mkd W B g cap l) (e : W'.heap[g]? = W.heap[g]?) : Mkd W' B g cap l :=
  owns_same (show W.ownsRow B 9 1 _ _ _ from h) (fun g' hg => by injection hg with hg; subst hg; exact e)
theorem Mkd.below {W W' : World} {B g cap : Nat} {l : List (List UInt8)} (h : Mkd W B g cap l) (hb : Below W.heap.size W W') : Mkd W' B g cap l := h.of (hb.block g h.lt.2.1)
theorem Mkd.base {W : World} {B B' g cap : Nat} {l : List (List UInt8)} (h : Mkd W B g cap l) (hb : B' ≤ B) : Mkd W B' g cap l := owns_base (show W.ownsRow B 9 1 _ _ _ from h) hb
theorem Mkd.row {W : World} {B g cap : Nat} {l : List (List UInt8)} (h : Mkd W B g cap l) : Row W (some ⟨g, 0, none⟩) (l ++ [spr]) := (ownS_row h).1

/-- Rows of structs: the cells of one, one behind the other. -/
theorem flatV_len {α : Type} (V : α → List Value) (k : Nat) (hk : ∀ x, (V x).length = k) (l : List α) : (l.flatMap V).length = l.length * k := by
  induction l with
  | nil => simp
  | cons x l ih =>
    rw [List.flatMap_cons, List.length_append, ih, hk, List.length_cons, Nat.succ_mul]
    omega
theorem flatV_at {α : Type} (V : α → List Value) (k : Nat) (hk : ∀ x, (V x).length = k) (l : List α) (i : Nat) (hi : i < l.length) (j : Nat) (hj : j < k) : (l.flatMap V)[i * k + j]? = (V l[i])[j]? := by
  induction l generalizing i with
  | nil => simp at hi
  | cons x l ih =>
    rw [List.flatMap_cons]
    cases i with
    | zero =>
      rw [List.getElem?_append_left (by rw [hk]; omega)]
      simp
    | succ i =>
      have e : (i + 1) * k + j = (V x).length + (i * k + j) := by rw [hk, Nat.succ_mul]; omega
      rw [e, List.getElem?_append_right (by omega), Nat.add_sub_cancel_left, ih i (by simpa using hi)]
      rfl

/-- Pairs. -/
def pV (p : List UInt8 × List UInt8) : List Value := [.string (S p.1), .string (S p.2)]
def pv (l : List (List UInt8 × List UInt8)) : List Value := l.flatMap pV
theorem pV_len (p : List UInt8 × List UInt8) : (pV p).length = 2 := rfl
theorem pv_snoc (l : List (List UInt8 × List UInt8)) (p : List UInt8 × List UInt8) : pv (l ++ [p]) = pv l ++ pV p := by simp [pv]
theorem pV_one (p : List UInt8 × List UInt8) : ∀ u ∈ pV p, u.oneCell' = true := by
  intro u hu
  simp [pV] at hu
  rcases hu with rfl | rfl <;> rfl
/-- A row of pairs, wherever it lies. -/
def PRow (w : World) (a : Option Addr) (l : List (List UInt8 × List UInt8)) : Prop := ∀ i (h : i < l.length), ∃ g, a = some ⟨g, 0, none⟩ ∧ w.cell? ⟨g, i * 2, none⟩ = some (.string (S l[i].1)) ∧ w.cell? ⟨g, i * 2 + 1, none⟩ = some (.string (S l[i].2))
theorem PRow.below {w w' : World} {a : Option Addr} {L : List (List UInt8 × List UInt8)} (h : PRow w a L) (hb : Below w.heap.size w w') : PRow w' a L := fun i hi => by
  obtain ⟨g, e, h1, h2⟩ := h i hi
  refine ⟨g, e, ?_, ?_⟩
  · rw [hb.cell (World.block_lt_of_cell? w _ h1)]; exact h1
  · rw [hb.cell (World.block_lt_of_cell? w _ h2)]; exact h2
/-- An attribute, and where its values lie. -/
structure Atr where
  d : List UInt8
  c : List UInt8
  a : Option Addr
  n : Nat
  l : List (List UInt8)
def aV (x : Atr) : List Value := [.string (S x.d), .string (S x.c), .slice x.a x.l.length x.n]
def av (l : List Atr) : List Value := l.flatMap aV
theorem aV_len (x : Atr) : (aV x).length = 3 := rfl
theorem av_snoc (l : List Atr) (p : Atr) : av (l ++ [p]) = av l ++ aV p := by simp [av]
theorem aV_one (p : Atr) : ∀ u ∈ aV p, u.oneCell' = true := by
  intro u hu
  simp [aV] at hu
  rcases hu with rfl | rfl | rfl <;> rfl
theorem info_attr : (Tryd.prog.info? 34).map (fun i => (i.zero, i.size, i.bytes)) = some (some (.agg #[.string ⟨#[]⟩, .string ⟨#[]⟩, .slice none 0 0]), 3, 56) := by kernel_rfl
def OwnA (W : World) (B : Nat) (v : Value) (l : List Atr) : Prop := W.ownsRow B 34 3 v l.length (av l)
theorem ownA_nil (W : World) (B : Nat) : OwnA W B (.slice none 0 0) [] := ⟨rfl, Or.inl ⟨rfl, rfl⟩⟩
/-- One attribute appended, in a walk. -/
theorem push_attr (w : World) {ops : Array Oper} {rest : List Oper} {o : Oper} {a : Act} {Q : Exit → Act → World → Prop} (hgd : o.guard = none) (s x : Operand)
    (ho : o.op = .call { callee := .builtin .append, args := #[s, x], argTypes := #[23, 23] }) (B : Nat) (v : Value) (l : List Atr) (p : Atr) (g : Nat)
    (hs : a.eval s = v) (hx : a.eval x = .slice (some ⟨g, 0, none⟩) 1 1) (hown : OwnA w B v l) (hg : Box w g 34 #[.string (S p.d), .string (S p.c), .slice p.a p.l.length p.n]) (hB : B ≤ w.heap.size) (hl : l.length ≤ 2097152)
    (h : ∀ g' cap w', OwnA w' B (.slice (some ⟨g', 0, none⟩) (l.length + 1) cap) (l ++ [p]) → (∀ b, b < w.heap.size → v.ownBlock ≠ some b → w'.heap[b]? = w.heap[b]?) → Below B w w' → wpList Tryd.prog ops Q rest (a.put o.dst (.slice (some ⟨g', 0, none⟩) (l.length + 1) cap)) w') :
    wpList Tryd.prog ops Q (o :: rest) a w := by
  obtain ⟨i0, hi, hz0, hz1, hz2⟩ := info_parts info_attr
  refine wpList_append_lies w hgd s x 23 ho B 34 i0 _ 3 56 Tryd.underlying23 hi hz0 hz1 hz2 rfl (by decide) v l.length (av l) hs hown ⟨g, 0, none⟩ 1 1 (aV p) hx rfl (World.news_of_block hg) (aV_one p) (by decide) (by unfold maxLen; omega) (by omega) hB w.heap.size rfl ?_
  intro g' cap w' h1 h2 h3 _
  refine h g' cap w' ?_ (fun b hb hne => h2.block b hb (fun hh => hne hh.symm)) ?_
  · unfold OwnA
    rw [av_snoc, List.length_append]
    exact h1
  · refine (Below.refl _ _).grown h2 hB ?_
    intro k hk
    exact (hown.lt _ hk).1
/-- A row of attributes, wherever it lies. -/
def ARow (w : World) (a : Option Addr) (l : List Atr) : Prop := ∀ i (h : i < l.length), (∃ b off, a = some ⟨b, off, none⟩ ∧ w.cell? ⟨b, off + i * 3, none⟩ = some (.string (S l[i].d)) ∧ w.cell? ⟨b, off + i * 3 + 1, none⟩ = some (.string (S l[i].c)) ∧ w.cell? ⟨b, off + i * 3 + 2, none⟩ = some (.slice l[i].a l[i].l.length l[i].n)) ∧ Row w l[i].a l[i].l
theorem ARow.below {w w' : World} {a : Option Addr} {L : List Atr} (h : ARow w a L) (hb : Below w.heap.size w w') : ARow w' a L := fun i hi => by
  obtain ⟨⟨b, off, e, h1, h2, h3⟩, h4⟩ := h i hi
  refine ⟨⟨b, off, e, ?_, ?_, ?_⟩, h4.below hb⟩
  · rw [hb.cell (World.block_lt_of_cell? w _ h1)]; exact h1
  · rw [hb.cell (World.block_lt_of_cell? w _ h2)]; exact h2
  · rw [hb.cell (World.block_lt_of_cell? w _ h3)]; exact h3
theorem ownA_cells {w : World} {B g cap n : Nat} {L : List Atr} (h : OwnA w B (.slice (some ⟨g, 0, none⟩) n cap) L) (i : Nat) (hi : i < L.length) : w.cell? ⟨g, i * 3, none⟩ = some (.string (S L[i].d)) ∧ w.cell? ⟨g, i * 3 + 1, none⟩ = some (.string (S L[i].c)) ∧ w.cell? ⟨g, i * 3 + 2, none⟩ = some (.slice L[i].a L[i].l.length L[i].n) := by
  have hn : n = L.length := by
    obtain ⟨a, c, hv, _⟩ := owns_slice h
    injection hv
  subst hn
  have key : ∀ j, j < 3 → w.cell? ⟨g, i * 3 + j, none⟩ = (aV L[i])[j]? := fun j hj => by
    have hc := World.ownsRow.cellAt (show w.ownsRow B 34 3 _ L.length (av L) from h) (i * 3 + j) (by omega)
    rw [hc]
    exact flatV_at aV 3 aV_len L i hi j hj
  exact ⟨key 0 (by omega), key 1 (by omega), key 2 (by omega)⟩
end Go.Proofs.YtnjakapoggjicaaDoor

namespace Go.Proofs.YtnjakapoggjicaaDoor
open Go.RowKit
set_option linter.unusedVariables false

theorem own_empty (w : World) : OwnS (w.alloc (.cells #[] 9)) w.heap.size (.slice (some ⟨w.heap.size, 0, none⟩) 0 0) [] :=
  ⟨rfl, Or.inr ⟨w.heap.size, 0, #[], rfl, Nat.le_refl _, heap_alloc_new w _, Nat.le_refl _, by unfold maxLen; omega, rfl, rfl⟩⟩

set_option maxHeartbeats 1000000 in
theorem roomy_any (l : List (List UInt8)) (a : Option Addr) (c : Nat) (w : World) (hl : l.length ≤ 1048576) (h1 : Row w a l) :
    Calls Tryd.prog 11 #[.slice a l.length c] w fun e w' => ∃ g cap, e = .returned (.slice (some ⟨g, 0, none⟩) l.length cap) ∧ Mkd w' w.heap.size g cap l ∧ Below w.heap.size w w' := by
  obtain ⟨wE, hwE⟩ : ∃ wE, w.alloc (.cells #[] 9) = wE := ⟨_, rfl⟩
  have hbE : Below w.heap.size w wE := by rw [← hwE]; exact (Below.refl _ _).alloc (Nat.le_refl _) _
  have hoE : OwnS wE w.heap.size (.slice (some ⟨w.heap.size, 0, none⟩) 0 0) [] := by rw [← hwE]; exact own_empty w
  obtain ⟨v1, w1, hr1, ho1, hb1⟩ := append_row wE w.heap.size _ [] l a l.length c hoE (h1.below hbE) rfl hbE.size (by simp; omega)
  rw [List.nil_append] at ho1
  have hb1' : Below w.heap.size w w1 := hbE.trans hb1
  obtain ⟨wA, hwA⟩ : ∃ wA, w1.alloc (.cells #[.string ⟨#[115, 112, 97, 114, 101, 32, 114, 111, 111, 109]⟩] 9) = wA := ⟨_, rfl⟩
  have hbA : Below w.heap.size w wA := by rw [← hwA]; exact hb1'.alloc hb1'.size _
  have hoA : OwnS wA w.heap.size v1 l := by rw [← hwA]; exact World.ownsRow.alloc ho1 _
  have hsA : Row wA (some ⟨w1.heap.size, 0, none⟩) [spr] := by
    intro i hi
    simp at hi
    subst hi
    refine ⟨w1.heap.size, 0, rfl, ?_⟩
    rw [← hwA]
    simp [go_sem, S, spr]
  obtain ⟨v2, w2, hr2, ho2, hb2⟩ := append_row wA w.heap.size v1 l [spr] _ 1 1 hoA hsA rfl hbA.size (by simp; omega)
  obtain ⟨g, cap, rfl, hcap⟩ : ∃ g cap, v2 = .slice (some ⟨g, 0, none⟩) (l.length + 1) cap ∧ l.length + 1 ≤ cap := by
    rcases owns_form (show World.ownsRow _ _ 9 1 _ _ _ from ho2) with ⟨_, h⟩ | ⟨g, cap, h, h', _⟩
    · simp at h
    · rw [List.length_append] at h h'
      exact ⟨g, cap, h, h'⟩
  have hfin : Hid (Mkd w2 w.heap.size g cap l ∧ Below w.heap.size w w2) := ⟨ho2, hbA.trans hb2⟩
  obtain ⟨va, vn, vc, rfl⟩ : ∃ va vn vc, v1 = .slice va vn vc := by
    obtain ⟨x, y, h, _⟩ := owns_slice (show World.ownsRow _ _ 9 1 _ _ _ from ho1)
    exact ⟨_, _, _, h⟩
  have n0 : (0 : Int) ≤ (l.length : Int) := Int.natCast_nonneg _
  have n1 : l.length ≤ cap := by omega
  clear hbE hoE hb1 ho1 hb1' hbA hoA hsA ho2 hb2 hcap h1 hl
  go_enter Tryd.func11, Tryd.ntmps11
  go_wp2_with (first | (at_builtin; refine Lib.wpList_append_run _ rfl _ _ _ _ rfl _ _ rfl rfl _ _ hr1 ?_) | (at_builtin; refine Lib.wpList_append_run _ rfl _ _ _ _ rfl _ _ rfl rfl _ _ hr2 ?_))
  go_ret
  exact ⟨g, cap, rfl, hfin.out⟩

set_option maxHeartbeats 1000000 in
theorem spared_any (l : List (List UInt8)) (B g cap : Nat) (w : World) (hl : l.length ≤ 1048576) (h : Mkd w B g cap l) :
    Calls Tryd.prog 19 #[.slice (some ⟨g, 0, none⟩) l.length cap] w fun e w' => e = .returned (.bool true) ∧ w' = w := by
  obtain ⟨b', o', e, hc⟩ := h.row l.length (by simp)
  injection e with e
  injection e with e1 e2
  subst e1 e2
  rw [List.getElem_append_right (Nat.le_refl _)] at hc
  simp only [Nat.sub_self, List.getElem_cons_zero, Nat.zero_add] at hc
  have hS : S spr = ⟨#[115, 112, 97, 114, 101, 32, 114, 111, 111, 109]⟩ := rfl
  rw [hS] at hc
  have n0 : (0 : Int) ≤ (l.length : Int) := Int.natCast_nonneg _
  have n1 : l.length + 1 ≤ cap := h.lt.2.2
  have n2 : (l.length : Int) < ((l.length + 1 : Nat) : Int) := Int.ofNat_lt.2 (Nat.lt_succ_self _)
  have n3 : wrap64 ((l.length : Int) + 1) = ((l.length + 1 : Nat) : Int) := by
    rw [IntWalk.wrap64_in] <;> omega
  have n4 : (0 : Int) ≤ ((l.length + 1 : Nat) : Int) := Int.natCast_nonneg _
  clear h hl hS
  generalize hn : l.length + 1 = n at *
  clear hn
  go_enter Tryd.func19, Tryd.ntmps19
  go_wp2_with fail
  go_ret
  exact ⟨rfl, rfl⟩

set_option maxHeartbeats 1000000 in
theorem sameT_any (l : List (List UInt8)) (a b : Option Addr) (c d : Nat) (w : World) (hl : l.length ≤ 9223372036854775807) (h1 : Row w a l) (h2 : Row w b l) :
    Calls Tryd.prog 9 #[.slice a l.length c, .slice b l.length d] w fun e w' => e = .returned (.bool true) ∧ ∃ q, w' = w.drewN q := by
  go_enter Tryd.func9, Tryd.ntmps9
  go_wp2_with fail
  go_loopw [5] (fun iv wr => ∃ i q : Nat, i ≤ l.length ∧ iv = .int .i64 (i : Int) ∧ Hid (wr = w.drewN q)) (fun iv _ => l.length - (intOf iv).toNat)
  case atStart => exact ⟨0, 0, Nat.zero_le _, rfl, rfl⟩
  case round =>
    obtain ⟨i, q, hi, rfl, hw⟩ := hrel
    by_cases hlt : i < l.length
    · obtain ⟨b1, o1, rfl, c1⟩ := h1 i hlt
      obtain ⟨b2, o2, rfl, c2⟩ := h2 i hlt
      have hE : ∀ a, wr.cell? a = w.cell? a := fun a => by rw [hw.out]; rfl
      rw [← hE] at c1 c2
      have i0 : (0 : Int) ≤ (i : Int) := Int.natCast_nonneg _
      have i1 : (i : Int) < (l.length : Int) := Int.ofNat_lt.2 hlt
      generalize S l[i] = X at *
      clear hE h1 h2
      go_wp2_with fail
      go_quiet (fail)
      go_wp2_with fail
      go_roundw
      case rel => exact ⟨i + 1, _, hlt, by simp, by unfold Hid; rw [hw.out, World.drewN_drewN]⟩
      case measure => simp [intOf]; omega
    · have e : i = l.length := by omega
      subst e
      have k1 : ¬ (l.length : Int) < (l.length : Int) := by omega
      go_wp2_with fail
      go_ret
      exact ⟨rfl, _, hw.out⟩
end Go.Proofs.YtnjakapoggjicaaDoor

namespace Go.Proofs.YtnjakapoggjicaaDoor
open Go.RowKit
set_option linter.unusedVariables false

/-- What an attribute says, wherever its values lie. -/
def pl (x : Atr) : List UInt8 × List UInt8 × List (List UInt8) := (x.d, x.c, x.l)
/-- Attributes whose values lie marked. -/
def AllM (W : World) (B : Nat) (ys : List Atr) : Prop := ∀ y ∈ ys, ∃ g, y.a = some ⟨g, 0, none⟩ ∧ Mkd W B g y.n y.l
def sprA : Atr := ⟨spr, [], none, 0, []⟩
theorem AllM.of {W W' : World} {B : Nat} {ys : List Atr} (h : AllM W B ys) (e : ∀ g cap l, Mkd W B g cap l → W'.heap[g]? = W.heap[g]?) : AllM W' B ys := fun y hy => by
  obtain ⟨g, h1, h2⟩ := h y hy
  exact ⟨g, h1, h2.of (e _ _ _ h2)⟩
theorem AllM.below {W W' : World} {B : Nat} {ys : List Atr} (h : AllM W B ys) (hb : Below W.heap.size W W') : AllM W' B ys := h.of (fun g cap l hm => hb.block g hm.lt.2.1)
/-- A copy of attributes, with its marks. -/
def CopyA (W : World) (B g cap : Nat) (xs ys : List Atr) : Prop := OwnA W B (.slice (some ⟨g, 0, none⟩) (xs.length + 1) cap) (ys ++ [sprA]) ∧ AllM W B ys ∧ ys.map pl = xs.map pl
theorem CopyA.len {W : World} {B g cap : Nat} {xs ys : List Atr} (h : CopyA W B g cap xs ys) : ys.length = xs.length := by
  have := congrArg List.length h.2.2
  simpa using this
theorem CopyA.lt {W : World} {B g cap : Nat} {xs ys : List Atr} (h : CopyA W B g cap xs ys) : B ≤ g ∧ g < W.heap.size ∧ xs.length + 1 ≤ cap := by
  rcases owns_form (show W.ownsRow B 34 3 _ _ _ from h.1) with ⟨h1, _⟩ | ⟨g', cap', h1, h2, h3, h4⟩
  · cases h1
  · injection h1 with h1 h6 h5
    injection h1 with h1
    injection h1 with h1
    subst h1 h5
    rw [← h6] at h2
    exact ⟨h3, h4, h2⟩
theorem CopyA.below {W W' : World} {B g cap : Nat} {xs ys : List Atr} (h : CopyA W B g cap xs ys) (hb : Below W.heap.size W W') : CopyA W' B g cap xs ys :=
  ⟨owns_same (show W.ownsRow B 34 3 _ _ _ from h.1) (fun g' hg => by injection hg with hg; subst hg; exact hb.block _ h.lt.2.1), h.2.1.below hb, h.2.2⟩
theorem CopyA.row {W : World} {B g cap : Nat} {xs ys : List Atr} (h : CopyA W B g cap xs ys) : ARow W (some ⟨g, 0, none⟩) ys := fun i hi => by
  obtain ⟨h1, h2, h3⟩ := ownA_cells h.1 i (by rw [List.length_append]; omega)
  simp only [List.getElem_append_left hi] at h1 h2 h3
  obtain ⟨g', e, hm⟩ := h.2.1 ys[i] (List.getElem_mem hi)
  refine ⟨⟨g, 0, rfl, by simpa using h1, by simpa using h2, by simpa using h3⟩, ?_⟩
  rw [e]
  exact hm.row.front

set_option maxRecDepth 100000 in
set_option maxHeartbeats 2000000 in
theorem copyAttrs_any (xs : List Atr) (a : Option Addr) (c : Nat) (w : World) (hn : xs.length ≤ 1048576) (hl : ∀ x ∈ xs, x.l.length ≤ 1048576) (h : ARow w a xs) :
    Calls Tryd.prog 12 #[.slice a xs.length c] w fun e w' => (∃ g cap, e = .returned (.slice (some ⟨g, 0, none⟩) xs.length cap) ∧ ∃ ys, CopyA w' w.heap.size g cap xs ys) ∧ Below w.heap.size w w' := by
  have h' : Hid (ARow w a xs) := h
  have hl' : Hid (∀ x ∈ xs, x.l.length ≤ 1048576) := hl
  clear h hl
  have hI0 : Hid (OwnA w w.heap.size (.slice none 0 0) [] ∧ AllM w w.heap.size [] ∧ ([] : List Atr).map pl = (xs.take 0).map pl ∧ Below w.heap.size w w) := ⟨ownA_nil _ _, fun y hy => (by cases hy), by simp, Below.refl _ _⟩
  go_enter Tryd.func12, Tryd.ntmps12
  go_wp2_with fail
  go_loopw [3, 4] (fun mv iv wr => ∃ (i : Nat) (ys : List Atr), i ≤ xs.length ∧ iv = .int .i64 (i : Int) ∧ Hid (OwnA wr w.heap.size mv ys ∧ AllM wr w.heap.size ys ∧ ys.map pl = (xs.take i).map pl ∧ Below w.heap.size w wr)) (fun _ iv _ => xs.length - (intOf iv).toNat)
  case atStart => exact ⟨0, [], Nat.zero_le _, rfl, hI0⟩
  case round =>
    obtain ⟨i, ys, hi, rfl, hI⟩ := hrel
    clear hI0
    have hyl : Hid (ys.length = i) := by
      have := congrArg List.length hI.out.2.2.1
      simp at this
      unfold Hid
      omega
    obtain ⟨ma, mc, hmv, _⟩ := owns_slice (show wr.ownsRow w.heap.size 34 3 _ _ _ from hI.out.1)
    subst hmv
    by_cases hlt : i < xs.length
    · obtain ⟨⟨b, off, rfl, c0, c1, c2⟩, hrow⟩ := (h'.out.below hI.out.2.2.2) i hlt
      have i0 : (0 : Int) ≤ (i : Int) := Int.natCast_nonneg _
      have i1 : (i : Int) < (xs.length : Int) := Int.ofNat_lt.2 hlt
      have htk : Hid (xs.take (i + 1) = xs.take i ++ [xs[i]]) := List.take_succ_eq_append_getElem hlt
      have hxl : xs[i].l.length ≤ 1048576 := hl'.out _ (List.getElem_mem hlt)
      obtain ⟨x, hx⟩ : ∃ x, xs[i] = x := ⟨_, rfl⟩
      rw [hx] at c0 c1 c2 hrow htk hxl
      have hlt' : Hid (i < xs.length) := hlt
      obtain ⟨wA, hwA⟩ : ∃ W, wr.alloc (.cells #[.string (S x.d), .string (S x.c), .slice x.a x.l.length x.n] 34) = W := ⟨_, rfl⟩
      have bA : Box wA wr.heap.size 34 #[.string (S x.d), .string (S x.c), .slice x.a x.l.length x.n] := by rw [← hwA]; exact Box.new _ _ _
      have hbA : Below wr.heap.size wr wA := by rw [← hwA]; exact (Below.refl _ _).alloc (Nat.le_refl _) _
      have hR := roomy_any x.l x.a x.n wA hxl (hrow.below hbA)
      have hR' : Hid (Calls Tryd.prog 11 #[.slice x.a x.l.length x.n] wA fun e w' => ∃ g cap, e = .returned (.slice (some ⟨g, 0, none⟩) x.l.length cap) ∧ Mkd w' wA.heap.size g cap x.l ∧ Below wA.heap.size wA w') := hR
      clear hR hrow hxl hx hlt
      obtain ⟨⟨e2, z2⟩⟩ : Nonempty (PProd (wA.cell? ⟨wr.heap.size, 2, none⟩ = some (.slice x.a x.l.length x.n)) (wA.frozen? ⟨wr.heap.size, 2, none⟩ = false)) := ⟨⟨(bA.cell 2 (by simp)).1, (bA.cell 2 (by simp)).2⟩⟩
      go_upto_region 6 with fail
      clear c0 c1 c2 hwA
      go_upto_region 7 with (go_at_call 11; refine hR'.out.mono ?_; rintro e w2 ⟨g, cap, rfl, hM, hb2⟩; have b2 := bA.below hb2; have f2 : w2.cell? ⟨wr.heap.size, 2, none⟩ = some (.slice x.a x.l.length x.n) := (b2.cell 2 (by simp)).1; have y2 : w2.frozen? ⟨wr.heap.size, 2, none⟩ = false := (b2.cell 2 (by simp)).2)
      obtain ⟨w3, hw3⟩ : ∃ W, w2.setCell ⟨wr.heap.size, 2, none⟩ (.slice (some ⟨g, 0, none⟩) x.l.length cap) = W := ⟨_, rfl⟩
      rw [hw3]
      have b3 : Box w3 wr.heap.size 34 #[.string (S x.d), .string (S x.c), .slice (some ⟨g, 0, none⟩) x.l.length cap] := by rw [← hw3]; exact b2.set 2 _
      have hsz : wr.heap.size < wA.heap.size := bA.lt
      have keep3 : ∀ k, k < wr.heap.size → w3.heap[k]? = wr.heap[k]? := fun k hk => by
        rw [← hw3, Below.heap_setCell _ _ _ _ (by show k ≠ wr.heap.size; omega), hb2.block k (by omega), hbA.block k hk]
      have hs3 : wr.heap.size ≤ w3.heap.size := by rw [← hw3, World.size_setCell]; have := hb2.size; omega
      have hB3 : Below wr.heap.size wr w3 := by rw [← hw3]; exact (hbA.trans (hb2.mono (by omega))).setCell (p := ⟨wr.heap.size, 2, none⟩) (Nat.le_refl _) _
      have hM3 : Mkd w3 w.heap.size g cap x.l := by
        have := hM.lt.1
        rw [← hw3]
        exact (hM.of (Below.heap_setCell _ _ _ _ (by show g ≠ wr.heap.size; omega))).base (by have := hI.out.2.2.2.size; omega)
      have hgn : wA.heap.size ≤ g := hM.lt.1
      clear hw3 b2 f2 y2 hM hb2
      obtain ⟨g0, _⟩ := b3.cell 0 (by simp)
      obtain ⟨g1, _⟩ := b3.cell 1 (by simp)
      obtain ⟨g2, _⟩ := b3.cell 2 (by simp)
      simp only [List.getElem_toArray, List.getElem_cons_zero, List.getElem_cons_succ] at g0 g1 g2
      have hO3 : OwnA w3 w.heap.size (.slice ma ys.length mc) ys := owns_same (show wr.ownsRow w.heap.size 34 3 _ _ _ from hI.out.1) (fun k hk => keep3 k (World.ownsRow.lt (show wr.ownsRow w.heap.size 34 3 _ _ _ from hI.out.1) k hk).2)
      have hA3 : AllM w3 w.heap.size ys := hI.out.2.1.of (fun k _ _ hm => keep3 k hm.lt.2.1)
      have hB0 : w.heap.size ≤ wr.heap.size := hI.out.2.2.2.size
      obtain ⟨y, hy⟩ : ∃ y : Atr, y = ⟨x.d, x.c, some ⟨g, 0, none⟩, cap, x.l⟩ := ⟨_, rfl⟩
      have b4 : Box (w3.alloc (.cells #[.string (S x.d), .string (S x.c), .slice (some ⟨g, 0, none⟩) x.l.length cap] 34)) w3.heap.size 34 #[.string (S y.d), .string (S y.c), .slice y.a y.l.length y.n] := by rw [hy]; exact Box.new _ _ _
      go_wp2_with (at_builtin; refine push_attr _ rfl _ _ rfl w.heap.size _ ys y w3.heap.size rfl rfl (World.ownsRow.alloc hO3 _) b4 (by rw [World.size_alloc]; omega) (by have := hyl.out; omega) ?_; intro g' cap' w5 hO5 hk5 hb5)
      have hfin : Hid (OwnA w5 w.heap.size (.slice (some ⟨g', 0, none⟩) (ys.length + 1) cap') (ys ++ [y]) ∧ AllM w5 w.heap.size (ys ++ [y]) ∧ (ys ++ [y]).map pl = (xs.take (i + 1)).map pl ∧ Below w.heap.size w w5) := by
        have hO4 : OwnA (w3.alloc (.cells #[.string (S x.d), .string (S x.c), .slice (some ⟨g, 0, none⟩) x.l.length cap] 34)) w.heap.size (.slice ma ys.length mc) ys := World.ownsRow.alloc hO3 _
        have hA4 : AllM w3 w.heap.size (ys ++ [y]) := fun z hz => by
          rcases List.mem_append.1 hz with hz | hz
          · exact hA3 z hz
          · have : z = y := by simpa using hz
            subst this
            subst hy
            exact ⟨g, rfl, hM3⟩
        refine ⟨hO5, (hA4.below ((Below.refl _ _).alloc (Nat.le_refl _) _)).of (fun k cp l hm => hk5 k hm.lt.2.1 (fun hh => ?_)), ?_, ?_⟩
        · exact owns_apart (show World.ownsRow _ _ 34 3 _ _ _ from hO4) (show World.ownsRow _ _ 9 1 _ _ _ from hm) (by decide) hh rfl
        · rw [List.map_append, hI.out.2.2.1, htk.out, List.map_append, hy]
          rfl
        · exact hI.out.2.2.2.trans ((hB3.mono hB0).trans (((Below.refl _ _).alloc (by omega) _).trans hb5))
      clear hO5 hk5 hb5 b4 hy hA3 hO3 g0 g1 g2 hM3 hB3 keep3 b3 hI
      go_wp2_with fail
      go_roundw
      case rel => exact ⟨i + 1, ys ++ [y], hlt'.out, by simp, hfin⟩
      case measure => have := hlt'.out; simp [intOf]; omega
    · have hie : i = xs.length := by omega
      subst hie
      rw [List.take_length] at hI
      have k1 : ¬ (xs.length : Int) < (xs.length : Int) := by omega
      have hB0 : w.heap.size ≤ wr.heap.size := hI.out.2.2.2.size
      have b4 : Box (wr.alloc (.cells #[.string ⟨#[115, 112, 97, 114, 101, 32, 114, 111, 111, 109]⟩, .string ⟨#[]⟩, .slice none 0 0] 34)) wr.heap.size 34 #[.string (S sprA.d), .string (S sprA.c), .slice sprA.a sprA.l.length sprA.n] := Box.new _ _ _
      have hyl' := hyl.out
      have n0 : (0 : Int) ≤ (xs.length : Int) := Int.natCast_nonneg _
      have hcap : ∀ g' cap' w5, OwnA w5 w.heap.size (.slice (some ⟨g', 0, none⟩) (ys.length + 1) cap') (ys ++ [sprA]) → xs.length ≤ cap' ∧ Hid (OwnA w5 w.heap.size (.slice (some ⟨g', 0, none⟩) (xs.length + 1) cap') (ys ++ [sprA])) := fun g' cap' w5 hO5 => by
        rw [hyl'] at hO5
        have := owns_cap (show World.ownsRow _ _ 34 3 _ _ _ from hO5)
        exact ⟨by omega, hO5⟩
      have hO4 := World.ownsRow.alloc (show wr.ownsRow w.heap.size 34 3 (.slice ma ys.length mc) ys.length (av ys) from hI.out.1) (.cells #[.string ⟨#[115, 112, 97, 114, 101, 32, 114, 111, 111, 109]⟩, .string ⟨#[]⟩, .slice none 0 0] 34)
      have hB1 : w.heap.size ≤ (wr.alloc (.cells #[.string ⟨#[115, 112, 97, 114, 101, 32, 114, 111, 111, 109]⟩, .string ⟨#[]⟩, .slice none 0 0] 34)).heap.size := by rw [World.size_alloc]; omega
      have hyn : ys.length ≤ 2097152 := by omega
      go_wp2_with (at_builtin; refine push_attr _ rfl _ _ rfl w.heap.size _ ys sprA wr.heap.size rfl rfl hO4 b4 hB1 hyn ?_; intro g' cap' w5 hO5 hk5 hb5; obtain ⟨hcp, hO6⟩ := hcap _ _ _ hO5; clear hO5 hcap)
      go_ret
      refine ⟨⟨g', cap', rfl, ys, hO6.out, (hI.out.2.1.below ((Below.refl _ _).alloc (Nat.le_refl _) _)).of (fun k cp l hm => hk5 k hm.lt.2.1 (fun hh => ?_)), hI.out.2.2.1⟩, ?_⟩
      · exact owns_apart (show World.ownsRow _ _ 34 3 _ _ _ from World.ownsRow.alloc hI.out.1 _) (show World.ownsRow _ _ 9 1 _ _ _ from hm) (by decide) hh rfl
      · exact hI.out.2.2.2.trans (((Below.refl _ _).alloc (by omega) _).trans hb5)
end Go.Proofs.YtnjakapoggjicaaDoor

namespace Go.Proofs.YtnjakapoggjicaaDoor
open Go.RowKit
set_option linter.unusedVariables false

/-- The pairs of attributes, in their order. -/
def prs (xs : List Atr) : List (List UInt8 × List UInt8) := xs.flatMap (fun x => x.l.map (fun v => (x.d, v)))
theorem prs_snoc (xs : List Atr) (x : Atr) : prs (xs ++ [x]) = prs xs ++ x.l.map (fun v => (x.d, v)) := by simp [prs]
theorem prs_take_le (xs : List Atr) (i : Nat) : (prs (xs.take i)).length ≤ (prs xs).length := by
  have h2 : prs xs = prs (xs.take i) ++ prs (xs.drop i) := by
    unfold prs
    rw [← List.flatMap_append, List.take_append_drop]
  rw [h2, List.length_append]
  omega
theorem prs_pl {xs ys : List Atr} (h : ys.map pl = xs.map pl) : prs ys = prs xs := by
  have e : ∀ zs : List Atr, prs zs = (zs.map pl).flatMap (fun t => t.2.2.map (fun v => (t.1, v))) := fun zs => by
    unfold prs
    rw [List.flatMap_map]
    rfl
  rw [e, e, h]
theorem set3_keep (W : World) (g : Nat) (a b c : Value) (k : Nat) (h : k ≠ g) : (((W.setCell ⟨g, 0, none⟩ a).setCell ⟨g, 1, none⟩ b).setCell ⟨g, 2, none⟩ c).heap[k]? = W.heap[k]? := by
  rw [Below.heap_setCell _ _ _ _ h, Below.heap_setCell _ _ _ _ h, Below.heap_setCell _ _ _ _ h]
theorem set3_below {w W : World} {B g : Nat} {a b c : Value} (h : Below B w W) (hg : B ≤ g) : Below B w (((W.setCell ⟨g, 0, none⟩ a).setCell ⟨g, 1, none⟩ b).setCell ⟨g, 2, none⟩ c) :=
  Below.setCell (Below.setCell (Below.setCell h hg _) hg _) hg _

end Go.Proofs.YtnjakapoggjicaaDoor

namespace Go.Proofs.YtnjakapoggjicaaDoor
open Go.RowKit
set_option linter.unusedVariables false

theorem drewN_below (W : World) (B q : Nat) : Below B W (W.drewN q) := ⟨rfl, rfl, rfl, Nat.le_refl _, fun _ _ => rfl⟩
set_option maxRecDepth 100000 in
set_option maxHeartbeats 2000000 in
theorem sameAttrs_any (xs ys : List Atr) (a b : Option Addr) (c d : Nat) (w : World) (hn : xs.length ≤ 1048576) (hl : ∀ x ∈ xs, x.l.length ≤ 1048576) (h1 : ARow w a xs) (h2 : ARow w b ys) (he : xs.map pl = ys.map pl) :
    Calls Tryd.prog 32 #[.slice a xs.length c, .slice b xs.length d] w fun e w' => e = .returned (.bool true) ∧ ∃ q, w' = w.drewN q := by
  have hlen : ys.length = xs.length := by
    have := congrArg List.length he
    simpa using this.symm
  have h1' : Hid (ARow w a xs) := h1
  have h2' : Hid (ARow w b ys) := h2
  have hl' : Hid (∀ x ∈ xs, x.l.length ≤ 1048576) := hl
  have he' : Hid (∀ i (hi : i < xs.length) (hj : i < ys.length), pl xs[i] = pl ys[i]) := fun i hi hj => by
    have h3 : (xs.map pl)[i]? = (ys.map pl)[i]? := by rw [he]
    simpa [hi, hj] using h3
  have hlen' : Hid (ys.length = xs.length) := hlen
  clear h1 h2 hl he hlen
  go_enter Tryd.func32, Tryd.ntmps32
  go_wp2_with fail
  go_loopw [5] (fun iv wr => ∃ i q : Nat, i ≤ xs.length ∧ iv = .int .i64 (i : Int) ∧ Hid (wr = w.drewN q)) (fun iv _ => xs.length - (intOf iv).toNat)
  case atStart => exact ⟨0, 0, Nat.zero_le _, rfl, rfl⟩
  case round =>
    obtain ⟨i, q, hi, rfl, hw⟩ := hrel
    by_cases hlt : i < xs.length
    · have hlj : i < ys.length := by rw [hlen'.out]; exact hlt
      obtain ⟨⟨b1, o1, rfl, c0, c1, c2⟩, r1⟩ := h1'.out i hlt
      obtain ⟨⟨b2, o2, rfl, d0, d1, d2⟩, r2⟩ := h2'.out i hlj
      have hxl := hl'.out _ (List.getElem_mem hlt)
      have hpl := he'.out i hlt hlj
      obtain ⟨⟨xd, xc, xa, xn, xl⟩, hx⟩ : ∃ x, xs[i] = x := ⟨_, rfl⟩
      obtain ⟨⟨yd, yc, ya, yn, yl⟩, hy⟩ : ∃ y, ys[i] = y := ⟨_, rfl⟩
      rw [hx] at c0 c1 c2 r1 hxl hpl
      rw [hy] at d0 d1 d2 r2 hpl
      dsimp only at c0 c1 c2 r1 hxl d0 d1 d2 r2
      simp only [pl, Prod.mk.injEq] at hpl
      obtain ⟨rfl, rfl, rfl⟩ := hpl
      have hE : ∀ a, wr.cell? a = w.cell? a := fun a => by rw [hw.out]; rfl
      have hS : ∀ n, Hid (Calls Tryd.prog 9 #[.slice xa xl.length xn, .slice ya xl.length yn] (wr.drewN n) fun e w' => e = .returned (.bool true) ∧ ∃ m, w' = (wr.drewN n).drewN m) := fun n => by
        have hb : Below w.heap.size w (wr.drewN n) := by rw [hw.out]; exact drewN_below _ _ _ |>.trans (drewN_below _ _ _)
        exact sameT_any xl xa ya xn yn _ (by omega) (r1.below hb) (r2.below hb)
      rw [← hE] at c0 c1 c2 d0 d1 d2
      have i0 : (0 : Int) ≤ (i : Int) := Int.natCast_nonneg _
      have i1 : (i : Int) < (xs.length : Int) := Int.ofNat_lt.2 hlt
      have hlt' : Hid (i < xs.length) := hlt
      clear hE r1 r2 hx hy hlj hlt
      go_wp2_with fail
      go_quiet ((go_at_call 9; exact Calls.quiet_of (hS _).out))
      clear hS c0 c1 c2 d0 d1 d2
      go_wp2_with fail
      go_roundw
      case rel => exact ⟨i + 1, _, hlt'.out, by simp, by unfold Hid; rw [hw.out, World.drewN_drewN]⟩
      case measure => have := hlt'.out; simp [intOf]; omega
    · have e : i = xs.length := by omega
      subst e
      have k1 : ¬ (xs.length : Int) < (xs.length : Int) := by omega
      go_wp2_with fail
      go_ret
      exact ⟨rfl, _, hw.out⟩
end Go.Proofs.YtnjakapoggjicaaDoor

namespace Go.Proofs.YtnjakapoggjicaaDoor
open Go.RowKit
set_option linter.unusedVariables false

theorem Mkd.drewN {W : World} {B g cap : Nat} {l : List (List UInt8)} (h : Mkd W B g cap l) (q : Nat) : Mkd (W.drewN q) B g cap l := h.below (drewN_below _ _ _)
theorem CopyA.drewN {W : World} {B g cap : Nat} {xs ys : List Atr} (h : CopyA W B g cap xs ys) (q : Nat) : CopyA (W.drewN q) B g cap xs ys := h.below (drewN_below _ _ _)
theorem pl_sizes {xs ys : List Atr} (h : ys.map pl = xs.map pl) (hl : ∀ x ∈ xs, x.l.length ≤ 1048576) : ∀ y ∈ ys, y.l.length ≤ 1048576 := fun y hy => by
  have h1 : pl y ∈ ys.map pl := List.mem_map_of_mem hy
  rw [h] at h1
  obtain ⟨x, hx, e⟩ := List.mem_map.1 h1
  have e2 : x.l = y.l := congrArg (fun t => t.2.2) e
  rw [← e2]
  exact hl x hx

set_option maxRecDepth 100000 in
set_option maxHeartbeats 2000000 in
theorem attrsSpared_any (xs ys : List Atr) (B g cap : Nat) (b : Option Addr) (d : Nat) (w : World) (hn : xs.length ≤ 1048576) (hl : ∀ x ∈ xs, x.l.length ≤ 1048576) (h1 : CopyA w B g cap xs ys) (h2 : ARow w b xs) :
    Calls Tryd.prog 17 #[.slice (some ⟨g, 0, none⟩) xs.length cap, .slice b xs.length d] w fun e w' => e = .returned (.bool true) ∧ ∃ q, w' = w.drewN q := by
  have hlen := h1.len
  have hS := sameAttrs_any ys xs (some ⟨g, 0, none⟩) b cap d w (by rw [hlen]; exact hn) (pl_sizes h1.2.2 hl) h1.row h2 h1.2.2
  rw [hlen] at hS
  have hS' : Hid (Calls Tryd.prog 32 #[.slice (some ⟨g, 0, none⟩) xs.length cap, .slice b xs.length d] w fun e w' => e = .returned (.bool true) ∧ ∃ q, w' = w.drewN q) := hS
  have h1' : Hid (CopyA w B g cap xs ys) := h1
  have hl2 : Hid (∀ y ∈ ys, y.l.length ≤ 1048576) := pl_sizes h1.2.2 hl
  have hlen' : Hid (ys.length = xs.length) := hlen
  clear hS h1 h2 hl hlen
  go_enter Tryd.func17, Tryd.ntmps17
  go_wp2_with (go_at_call 32; refine hS'.out.mono ?_; rintro e w' ⟨rfl, q0, rfl⟩)
  go_loopw [5] (fun iv wr => ∃ i q : Nat, i ≤ xs.length ∧ iv = .int .i64 (i : Int) ∧ Hid (wr = w.drewN q)) (fun iv _ => xs.length - (intOf iv).toNat)
  case atStart => exact ⟨0, q0, Nat.zero_le _, rfl, rfl⟩
  case round =>
    obtain ⟨i, q, hi, rfl, hw⟩ := hrel
    by_cases hlt : i < xs.length
    · have hlj : i < ys.length := by rw [hlen'.out]; exact hlt
      have hC : CopyA wr B g cap xs ys := by rw [hw.out]; exact h1'.out.drewN q
      obtain ⟨⟨b1, o1, hb1, c0, c1, c2⟩, r1⟩ := hC.row i hlj
      injection hb1 with hb1
      injection hb1 with hb1 ho1
      subst hb1 ho1
      have hM : ∃ g', ys[i].a = some ⟨g', 0, none⟩ ∧ Mkd wr B g' ys[i].n ys[i].l := hC.2.1 _ (List.getElem_mem hlj)
      have hxl := hl2.out _ (List.getElem_mem hlj)
      obtain ⟨⟨xd, xc, xa, xn, xl⟩, hx⟩ : ∃ x, ys[i] = x := ⟨_, rfl⟩
      rw [hx] at c0 c1 c2 hxl hM
      dsimp only at c0 c1 c2 hxl hM
      obtain ⟨g', rfl, hM⟩ := hM
      have hP : Hid (Calls Tryd.prog 19 #[.slice (some ⟨g', 0, none⟩) xl.length xn] wr fun e w' => e = .returned (.bool true) ∧ w' = wr) := spared_any xl B g' xn wr hxl hM
      have i0 : (0 : Int) ≤ (i : Int) := Int.natCast_nonneg _
      have i1 : (i : Int) < (xs.length : Int) := Int.ofNat_lt.2 hlt
      have hlt' : Hid (i < xs.length) := hlt
      rw [Nat.zero_add] at c2
      clear hlj hx hM hC r1 hlt c0 c1
      go_wp2_with (go_at_call 19; refine hP.out.mono ?_; rintro e w' ⟨rfl, rfl⟩)
      go_roundw
      case rel => exact ⟨i + 1, q, hlt'.out, by simp, hw⟩
      case measure => have := hlt'.out; simp [intOf]; omega
    · have e : i = xs.length := by omega
      subst e
      have k1 : ¬ (xs.length : Int) < (xs.length : Int) := by omega
      have hC : CopyA wr B g cap xs ys := by rw [hw.out]; exact h1'.out.drewN q
      have hcl := (ownA_cells hC.1 xs.length (by rw [List.length_append, hlen'.out]; simp)).1
      have hat : (ys ++ [sprA])[xs.length]'(by rw [List.length_append, hlen'.out]; simp) = sprA := by
        rw [List.getElem_append_right (by rw [hlen'.out]; exact Nat.le_refl _)]
        simp [hlen'.out]
      rw [hat] at hcl
      have hS : S sprA.d = ⟨#[115, 112, 97, 114, 101, 32, 114, 111, 111, 109]⟩ := rfl
      rw [hS] at hcl
      have n0 : (0 : Int) ≤ (xs.length : Int) := Int.natCast_nonneg _
      have n1 : xs.length + 1 ≤ cap := hC.lt.2.2
      have n2 : (xs.length : Int) < ((xs.length + 1 : Nat) : Int) := Int.ofNat_lt.2 (Nat.lt_succ_self _)
      have n3 : wrap64 ((xs.length : Int) + 1) = ((xs.length + 1 : Nat) : Int) := by
        rw [IntWalk.wrap64_in] <;> omega
      have n4 : (0 : Int) ≤ ((xs.length + 1 : Nat) : Int) := Int.natCast_nonneg _
      clear hC hat hS
      generalize hnn : xs.length + 1 = n at *
      clear hnn
      go_wp2_with fail
      go_ret
      exact ⟨rfl, _, hw.out⟩

set_option maxRecDepth 100000 in
set_option maxHeartbeats 2000000 in
theorem sameEntry_any (ln : Int) (nm : ByteArray) (kl : List (List UInt8)) (ka ka' : Option Addr) (kc kc' : Nat) (xs ys : List Atr) (a a' : Option Addr) (c c' : Nat) (w : World) (hkl : kl.length ≤ 1048576) (hn : xs.length ≤ 1048576) (hl : ∀ x ∈ xs, x.l.length ≤ 1048576) (hk : Row w ka kl) (hk' : Row w ka' kl) (h : ARow w a xs) (h' : ARow w a' ys) (he : xs.map pl = ys.map pl) :
    Calls Tryd.prog 18 #[.agg #[.int .i64 ln, .string nm, .slice ka kl.length kc, .slice a xs.length c], .agg #[.int .i64 ln, .string nm, .slice ka' kl.length kc', .slice a' xs.length c']] w fun e w' => e = .returned (.bool true) ∧ Below w.heap.size w w' := by
  obtain ⟨Wa, hWa⟩ : ∃ W, w.alloc (.cells #[.int .i64 ln, .string nm, .slice ka kl.length kc, .slice a xs.length c] 25) = W := ⟨_, rfl⟩
  obtain ⟨Wb, hWb⟩ : ∃ W, Wa.alloc (.cells #[.int .i64 ln, .string nm, .slice ka' kl.length kc', .slice a' xs.length c'] 25) = W := ⟨_, rfl⟩
  have na : Wa.heap.size = w.heap.size + 1 := by rw [← hWa]; simp
  have pa : Box Wa w.heap.size 25 #[.int .i64 ln, .string nm, .slice ka kl.length kc, .slice a xs.length c] := by rw [← hWa]; exact Box.new _ _ _
  have p : Box Wb w.heap.size 25 #[.int .i64 ln, .string nm, .slice ka kl.length kc, .slice a xs.length c] := by rw [← hWb]; exact pa.past _
  have q : Box Wb (w.heap.size + 1) 25 #[.int .i64 ln, .string nm, .slice ka' kl.length kc', .slice a' xs.length c'] := by rw [← hWb, ← na]; exact Box.new _ _ _
  have hB : Below w.heap.size w Wb := by
    rw [← hWb, ← hWa]
    exact ((Below.refl _ _).alloc (Nat.le_refl _) _).alloc (by simp) _
  have hT : Hid (Calls Tryd.prog 9 #[.slice ka kl.length kc, .slice ka' kl.length kc'] Wb fun e w' => e = .returned (.bool true) ∧ ∃ q, w' = Wb.drewN q) := sameT_any kl ka ka' kc kc' Wb (by omega) (hk.below hB) (hk'.below hB)
  have hA : ∀ n, Hid (Calls Tryd.prog 32 #[.slice a xs.length c, .slice a' xs.length c'] (Wb.drewN n) fun e w' => e = .returned (.bool true) ∧ ∃ q, w' = (Wb.drewN n).drewN q) := fun n => sameAttrs_any xs ys a a' c c' _ hn hl ((h.below hB).below (drewN_below _ _ _)) ((h'.below hB).below (drewN_below _ _ _)) he
  obtain ⟨c0, _⟩ := p.cell 0 (by simp)
  obtain ⟨c1, _⟩ := p.cell 1 (by simp)
  obtain ⟨c2, _⟩ := p.cell 2 (by simp)
  obtain ⟨c3, _⟩ := p.cell 3 (by simp)
  obtain ⟨d0, _⟩ := q.cell 0 (by simp)
  obtain ⟨d1, _⟩ := q.cell 1 (by simp)
  obtain ⟨d2, _⟩ := q.cell 2 (by simp)
  obtain ⟨d3, _⟩ := q.cell 3 (by simp)
  simp only [List.getElem_toArray, List.getElem_cons_zero, List.getElem_cons_succ] at c0 c1 c2 c3 d0 d1 d2 d3
  have hB' : Hid (Below w.heap.size w Wb) := hB
  clear pa p q hB h h' hk hk' he hl
  go_enter Tryd.func18, Tryd.ntmps18
  go_wp2_with (first | (go_at_call 9; refine hT.out.mono ?_; rintro e w' ⟨rfl, q1, rfl⟩) | (go_at_call 32; refine (hA _).out.mono ?_; rintro e w' ⟨rfl, q2, rfl⟩))
  go_ret
  exact ⟨rfl, hB'.out.trans (drewN_below _ _ _)⟩

set_option maxRecDepth 100000 in
set_option maxHeartbeats 2000000 in
theorem entrySpared_any (ln : Int) (nm : ByteArray) (kl : List (List UInt8)) (B gk ck : Nat) (ka : Option Addr) (kc : Nat) (xs ys : List Atr) (g cap : Nat) (a : Option Addr) (c : Nat) (w : World) (hkl : kl.length ≤ 1048576) (hn : xs.length ≤ 1048576) (hl : ∀ x ∈ xs, x.l.length ≤ 1048576) (hM : Mkd w B gk ck kl) (hC : CopyA w B g cap xs ys) (hk : Row w ka kl) (h : ARow w a xs) :
    Calls Tryd.prog 10 #[.agg #[.int .i64 ln, .string nm, .slice (some ⟨gk, 0, none⟩) kl.length ck, .slice (some ⟨g, 0, none⟩) xs.length cap], .agg #[.int .i64 ln, .string nm, .slice ka kl.length kc, .slice a xs.length c]] w fun e w' => e = .returned (.bool true) ∧ Below w.heap.size w w' := by
  obtain ⟨Wa, hWa⟩ : ∃ W, w.alloc (.cells #[.int .i64 ln, .string nm, .slice (some ⟨gk, 0, none⟩) kl.length ck, .slice (some ⟨g, 0, none⟩) xs.length cap] 25) = W := ⟨_, rfl⟩
  obtain ⟨Wb, hWb⟩ : ∃ W, Wa.alloc (.cells #[.int .i64 ln, .string nm, .slice ka kl.length kc, .slice a xs.length c] 25) = W := ⟨_, rfl⟩
  have na : Wa.heap.size = w.heap.size + 1 := by rw [← hWa]; simp
  have pa : Box Wa w.heap.size 25 #[.int .i64 ln, .string nm, .slice (some ⟨gk, 0, none⟩) kl.length ck, .slice (some ⟨g, 0, none⟩) xs.length cap] := by rw [← hWa]; exact Box.new _ _ _
  have p : Box Wb w.heap.size 25 #[.int .i64 ln, .string nm, .slice (some ⟨gk, 0, none⟩) kl.length ck, .slice (some ⟨g, 0, none⟩) xs.length cap] := by rw [← hWb]; exact pa.past _
  have q : Box Wb (w.heap.size + 1) 25 #[.int .i64 ln, .string nm, .slice ka kl.length kc, .slice a xs.length c] := by rw [← hWb, ← na]; exact Box.new _ _ _
  have hB : Below w.heap.size w Wb := by
    rw [← hWb, ← hWa]
    exact ((Below.refl _ _).alloc (Nat.le_refl _) _).alloc (by simp) _
  have hMb := hM.below hB
  have hCb := hC.below hB
  have hkb := hk.below hB
  have hb := h.below hB
  have hA : Hid (Calls Tryd.prog 17 #[.slice (some ⟨g, 0, none⟩) xs.length cap, .slice a xs.length c] Wb fun e w' => e = .returned (.bool true) ∧ ∃ q, w' = Wb.drewN q) := attrsSpared_any xs ys B g cap a c Wb hn hl hCb hb
  have hlen := hC.len
  have hE : ∀ n, Hid (Calls Tryd.prog 18 #[.agg #[.int .i64 ln, .string nm, .slice (some ⟨gk, 0, none⟩) kl.length ck, .slice (some ⟨g, 0, none⟩) xs.length cap], .agg #[.int .i64 ln, .string nm, .slice ka kl.length kc, .slice a xs.length c]] (Wb.drewN n) fun e w' => e = .returned (.bool true) ∧ Below (Wb.drewN n).heap.size (Wb.drewN n) w') := fun n => by
    have hz := sameEntry_any ln nm kl (some ⟨gk, 0, none⟩) ka ck kc ys xs (some ⟨g, 0, none⟩) a cap c (Wb.drewN n) hkl (by rw [hlen]; exact hn) (pl_sizes hC.2.2 hl) (hMb.drewN n).row.front (hkb.below (drewN_below _ _ _)) (hCb.drewN n).row (hb.below (drewN_below _ _ _)) hC.2.2
    rw [hlen] at hz
    exact hz
  have hP : ∀ W, Below Wb.heap.size Wb W → Hid (Calls Tryd.prog 19 #[.slice (some ⟨gk, 0, none⟩) kl.length ck] W fun e w' => e = .returned (.bool true) ∧ w' = W) := fun W hW => spared_any kl B gk ck W hkl (hMb.below hW)
  obtain ⟨c0, _⟩ := p.cell 0 (by simp)
  obtain ⟨c1, _⟩ := p.cell 1 (by simp)
  obtain ⟨c2, _⟩ := p.cell 2 (by simp)
  obtain ⟨c3, _⟩ := p.cell 3 (by simp)
  obtain ⟨d0, _⟩ := q.cell 0 (by simp)
  obtain ⟨d1, _⟩ := q.cell 1 (by simp)
  obtain ⟨d2, _⟩ := q.cell 2 (by simp)
  obtain ⟨d3, _⟩ := q.cell 3 (by simp)
  simp only [List.getElem_toArray, List.getElem_cons_zero, List.getElem_cons_succ] at c0 c1 c2 c3 d0 d1 d2 d3
  have hB' : Hid (Below w.heap.size w Wb ∧ Box Wb w.heap.size 25 #[.int .i64 ln, .string nm, .slice (some ⟨gk, 0, none⟩) kl.length ck, .slice (some ⟨g, 0, none⟩) xs.length cap]) := ⟨hB, p⟩
  clear pa p q hB h hk hl hM hC hMb hCb hkb hb hlen
  go_enter Tryd.func10, Tryd.ntmps10
  go_wp2_with (first | (go_at_call 17; refine hA.out.mono ?_; rintro e w' ⟨rfl, q1, rfl⟩) | (go_at_call 18; refine (hE _).out.mono ?_; rintro e w2 ⟨rfl, hb2⟩; have hP2 := hP w2 ((drewN_below _ _ _).trans hb2); have e2 : w2.cell? ⟨w.heap.size, 2, none⟩ = some (.slice (some ⟨gk, 0, none⟩) kl.length ck) := ((hB'.out.2.below ((drewN_below _ _ q1).trans hb2)).cell 2 (by simp)).1) | (go_at_call 19; refine hP2.out.mono ?_; rintro e w' ⟨rfl, rfl⟩))
  go_ret
  exact ⟨rfl, hB'.out.1.trans (((drewN_below _ _ _).trans hb2).mono hB'.out.1.size)⟩
end Go.Proofs.YtnjakapoggjicaaDoor
