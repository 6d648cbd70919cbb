import Derived.Test.YtdeeegocjgikoaaDoorEnRowA
import Derived.Deep.WholeRow
import Derived.Deep.RegionHeld3
import Derived.Deep.RegionHeldLaw
import Derived.Deep.AppendLies
import Derived.Deep.DeepCutAuto
import Derived.Lib.OthersKept
namespace Go.Proofs.YtdeeegocjgikoaaDoor
open Go.RowKit
set_option linter.unusedVariables false

/-- A block whose cells are known, all of them. -/
def Box (W : World) (g : Nat) (t : TypeId) (cs : Array Value) : Prop := W.heap[g]? = some (.cells cs t (0, 0))
theorem Box.cell {W : World} {g : Nat} {t : TypeId} {cs : Array Value} (h : Box W g t cs) (j : Nat) (hj : j < cs.size) : W.cell? ⟨g, j, none⟩ = some cs[j] ∧ W.frozen? ⟨g, j, none⟩ = false := by
  refine ⟨?_, Go.frozen_of_row _ _ _ _ _ h⟩
  rw [cell_of_row W g j cs t (0, 0) h]
  simp [hj]
theorem Box.of {W W' : World} {g : Nat} {t : TypeId} {cs : Array Value} (h : Box W g t cs) (e : W'.heap[g]? = W.heap[g]?) : Box W' g t cs := e.trans h
theorem Box.set {W : World} {g : Nat} {t : TypeId} {cs : Array Value} (h : Box W g t cs) (j : Nat) (u : Value) : Box (W.setCell ⟨g, j, none⟩ u) g t (cs.setIfInBounds j u) := Go.heap_setCell_same _ _ _ _ _ _ h
theorem Box.lt {W : World} {g : Nat} {t : TypeId} {cs : Array Value} (h : Box W g t cs) : g < W.heap.size := (Array.getElem?_eq_some_iff.1 h).1
theorem Box.new (W : World) (t : TypeId) (cs : Array Value) : Box (W.alloc (.cells cs t)) W.heap.size t cs := heap_alloc_last W _
theorem Box.past {W : World} {g : Nat} {t : TypeId} {cs : Array Value} (h : Box W g t cs) (o : _) : Box (W.alloc o) g t cs := h.of (Below.heap_alloc _ _ _ h.lt)
theorem Box.below {W W' : World} {g : Nat} {t : TypeId} {cs : Array Value} (h : Box W g t cs) (hb : Below W.heap.size W W') : Box W' g t cs := h.of (hb.block g h.lt)
theorem results_cell (fn : Func) (t : Tmp) (ty : TypeId) (h : fn.results = #[.cell t ty]) (tmps : Array Value) (P : Program) (w : World) (p : Addr) (x : Value) (hp : tmps.getD t undef = .pointer (some p)) (hl : (loadVar ty p).run P w = .ok x w) :
    (results fn tmps).run P w = .ok x w := by
  have hp' : tmps[t]?.getD undef = .pointer (some p) := by rw [← hp]; simp
  simp [results, h, hp', asAddr, hl]

theorem owns_same {w w' : World} {B k n : Nat} {e : TypeId} {v : Value} {xs : List Value} (h : w.ownsRow B e k v n xs) (hb : ∀ g, v.ownBlock = some g → w'.heap[g]? = w.heap[g]?) : w'.ownsRow B e k v n xs := by
  rcases h with ⟨h1, ⟨rfl, h2⟩ | ⟨g, cap, cur, rfl, h3, h4, h5⟩⟩
  · exact ⟨h1, Or.inl ⟨rfl, h2⟩⟩
  · exact ⟨h1, Or.inr ⟨g, cap, cur, rfl, h3, by rw [hb g rfl]; exact h4, h5⟩⟩
theorem owns_base {w : World} {B B' k n : Nat} {e : TypeId} {v : Value} {xs : List Value} (h : w.ownsRow B e k v n xs) (hb : B' ≤ B) : w.ownsRow B' e k v n xs := by
  rcases h with ⟨h1, ⟨rfl, h2⟩ | ⟨g, cap, cur, rfl, h3, h4, h5⟩⟩
  · exact ⟨h1, Or.inl ⟨rfl, h2⟩⟩
  · exact ⟨h1, Or.inr ⟨g, cap, cur, rfl, Nat.le_trans hb h3, h4, h5⟩⟩
theorem owns_form {w : World} {B k n : Nat} {e : TypeId} {v : Value} {xs : List Value} (h : w.ownsRow B e k v n xs) : (v = .slice none 0 0 ∧ n = 0) ∨ (∃ g cap, v = .slice (some ⟨g, 0, none⟩) n cap ∧ n ≤ cap ∧ B ≤ g ∧ g < w.heap.size) := by
  rcases h with ⟨h1, ⟨rfl, h2⟩ | ⟨g, cap, cur, rfl, h3, h4, h5, _⟩⟩
  · exact Or.inl ⟨rfl, h2⟩
  · exact Or.inr ⟨g, cap, rfl, h5, h3, (Array.getElem?_eq_some_iff.1 h4).1⟩
theorem owns_slice {w : World} {B k n : Nat} {e : TypeId} {v : Value} {xs : List Value} (h : w.ownsRow B e k v n xs) : ∃ a c, v = .slice a n c ∧ n ≤ c := by
  rcases owns_form h with ⟨rfl, rfl⟩ | ⟨g, cap, rfl, h, _⟩
  · exact ⟨_, _, rfl, Nat.le_refl _⟩
  · exact ⟨_, _, rfl, h⟩
theorem owns_cap {w : World} {B k n m c : Nat} {a : Option Addr} {e : TypeId} {xs : List Value} (h : w.ownsRow B e k (.slice a m c) n xs) : m = n ∧ n ≤ c := by
  obtain ⟨a', c', hv, hc⟩ := owns_slice h
  injection hv with _ h1 h2
  subst h2
  exact ⟨h1, hc⟩
/-- A box of one type is no row of another. -/
theorem box_apart {w : World} {B k n g : Nat} {e t : TypeId} {v : Value} {xs : List Value} {cs : Array Value} (hb : Box w g t cs) (h : w.ownsRow B e k v n xs) (hne : e ≠ t) : v.ownBlock ≠ some g := fun hg => by
  rcases h with ⟨h1, ⟨rfl, h2⟩ | ⟨g', cap, cur, rfl, h3, h4, h5, _⟩⟩
  · cases hg
  · injection hg with hg
    subst hg
    rw [hb] at h4
    injection h4 with h4
    injection h4 with _ h4 _
    exact hne h4.symm
theorem owns_apart {w : World} {B B' k k' n n' : Nat} {e e' : TypeId} {v v' : Value} {xs xs' : List Value} (h : w.ownsRow B e k v n xs) (h' : w.ownsRow B' e' k' v' n' xs') (hne : e ≠ e') {g : Nat} (hg : v.ownBlock = some g) : v'.ownBlock ≠ some g := by
  rcases h with ⟨h1, ⟨rfl, h2⟩ | ⟨g', cap, cur, rfl, h3, h4, h5, _⟩⟩
  · cases hg
  · injection hg with hg
    subst hg
    exact box_apart (show Box w g' e cur from h4) h' (Ne.symm hne)

/-- The mark behind a list. -/
def spr : List UInt8 := [115, 112, 97, 114, 101, 32, 114, 111, 111, 109]
/-- A list of texts that lies marked. -/
def Mkd (W : World) (B g cap : Nat) (l : List (List UInt8)) : Prop := OwnS W B (.slice (some ⟨g, 0, none⟩) (l.length + 1) cap) (l ++ [spr])
theorem Mkd.lt {W : World} {B g cap : Nat} {l : List (List UInt8)} (h : Mkd W B g cap l) : B ≤ g ∧ g < W.heap.size ∧ l.length + 1 ≤ cap := by
  rcases owns_form (show W.ownsRow B 9 1 _ _ _ from h) with ⟨h1, _⟩ | ⟨g', cap', h1, h2, h3, h4⟩
  · cases h1
  · injection h1 with h1 _ h5
    injection h1 with h1
    injection h1 with h1
    subst h1 h5
    rw [List.length_append] at h2
    exact ⟨h3, h4, h2⟩
theorem Mkd.of {W W' : World} {B g cap : Nat} {l : List (List UInt8)} (h : Mkd W B g cap l) (e : W'.heap[g]? = W.heap[g]?) : Mkd W' B g cap l :=
  owns_same (show W.ownsRow B 9 1 _ _ _ from h) (fun g' hg => by injection hg with hg; subst hg; exact e)
theorem Mkd.below {W W' : World} {B g cap : Nat} {l : List (List UInt8)} (h : Mkd W B g cap l) (hb : Below W.heap.size W W') : Mkd W' B g cap l := h.of (hb.block g h.lt.2.1)
theorem Mkd.base {W : World} {B B' g cap : Nat} {l : List (List UInt8)} (h : Mkd W B g cap l) (hb : B' ≤ B) : Mkd W B' g cap l := owns_base (show W.ownsRow B 9 1 _ _ _ from h) hb
theorem Mkd.row {W : World} {B g cap : Nat} {l : List (List UInt8)} (h : Mkd W B g cap l) : Row W (some ⟨g, 0, none⟩) (l ++ [spr]) := (ownS_row h).1

/-- Rows of structs: the cells of one, one behind the other. -/
theorem flatV_len {α : Type} (V : α → List Value) (k : Nat) (hk : ∀ x, (V x).length = k) (l : List α) : (l.flatMap V).length = l.length * k := by
  induction l with
  | nil => simp
  | cons x l ih =>
    rw [List.flatMap_cons, List.length_append, ih, hk, List.length_cons, Nat.succ_mul]
    omega
theorem flatV_at {α : Type} (V : α → List Value) (k : Nat) (hk : ∀ x, (V x).length = k) (l : List α) (i : Nat) (hi : i < l.length) (j : Nat) (hj : j < k) : (l.flatMap V)[i * k + j]? = (V l[i])[j]? := by
  induction l generalizing i with
  | nil => simp at hi
  | cons x l ih =>
    rw [List.flatMap_cons]
    cases i with
    | zero =>
      rw [List.getElem?_append_left (by rw [hk]; omega)]
      simp
    | succ i =>
      have e : (i + 1) * k + j = (V x).length + (i * k + j) := by rw [hk, Nat.succ_mul]; omega
      rw [e, List.getElem?_append_right (by omega), Nat.add_sub_cancel_left, ih i (by simpa using hi)]
      rfl

/-- Pairs. -/
def pV (p : List UInt8 × List UInt8) : List Value := [.string (S p.1), .string (S p.2)]
def pv (l : List (List UInt8 × List UInt8)) : List Value := l.flatMap pV
theorem pV_len (p : List UInt8 × List UInt8) : (pV p).length = 2 := rfl
theorem pv_snoc (l : List (List UInt8 × List UInt8)) (p : List UInt8 × List UInt8) : pv (l ++ [p]) = pv l ++ pV p := by simp [pv]
theorem pV_one (p : List UInt8 × List UInt8) : ∀ u ∈ pV p, u.oneCell' = true := by
  intro u hu
  simp [pV] at hu
  rcases hu with rfl | rfl <;> rfl
/-- A row of pairs, wherever it lies. -/
def PRow (w : World) (a : Option Addr) (l : List (List UInt8 × List UInt8)) : Prop := ∀ i (h : i < l.length), ∃ g, a = some ⟨g, 0, none⟩ ∧ w.cell? ⟨g, i * 2, none⟩ = some (.string (S l[i].1)) ∧ w.cell? ⟨g, i * 2 + 1, none⟩ = some (.string (S l[i].2))
theorem PRow.below {w w' : World} {a : Option Addr} {L : List (List UInt8 × List UInt8)} (h : PRow w a L) (hb : Below w.heap.size w w') : PRow w' a L := fun i hi => by
  obtain ⟨g, e, h1, h2⟩ := h i hi
  refine ⟨g, e, ?_, ?_⟩
  · rw [hb.cell (World.block_lt_of_cell? w _ h1)]; exact h1
  · rw [hb.cell (World.block_lt_of_cell? w _ h2)]; exact h2
/-- An attribute, and where its values lie. -/
structure Atr where
  d : List UInt8
  c : List UInt8
  a : Option Addr
  n : Nat
  l : List (List UInt8)
def aV (x : Atr) : List Value := [.string (S x.d), .string (S x.c), .slice x.a x.l.length x.n]
def av (l : List Atr) : List Value := l.flatMap aV
theorem aV_len (x : Atr) : (aV x).length = 3 := rfl
theorem av_snoc (l : List Atr) (p : Atr) : av (l ++ [p]) = av l ++ aV p := by simp [av]
theorem aV_one (p : Atr) : ∀ u ∈ aV p, u.oneCell' = true := by
  intro u hu
  simp [aV] at hu
  rcases hu with rfl | rfl | rfl <;> rfl
theorem info_attr : (Tryd.prog.info? 32).map (fun i => (i.zero, i.size, i.bytes)) = some (some (.agg #[.string ⟨#[]⟩, .string ⟨#[]⟩, .slice none 0 0]), 3, 56) := by kernel_rfl
def OwnA (W : World) (B : Nat) (v : Value) (l : List Atr) : Prop := W.ownsRow B 32 3 v l.length (av l)
theorem ownA_nil (W : World) (B : Nat) : OwnA W B (.slice none 0 0) [] := ⟨rfl, Or.inl ⟨rfl, rfl⟩⟩
/-- One attribute appended, in a walk. -/
theorem push_attr (w : World) {ops : Array Oper} {rest : List Oper} {o : Oper} {a : Act} {Q : Exit → Act → World → Prop} (hgd : o.guard = none) (s x : Operand)
    (ho : o.op = .call { callee := .builtin .append, args := #[s, x], argTypes := #[23, 23] }) (B : Nat) (v : Value) (l : List Atr) (p : Atr) (g : Nat)
    (hs : a.eval s = v) (hx : a.eval x = .slice (some ⟨g, 0, none⟩) 1 1) (hown : OwnA w B v l) (hg : Box w g 32 #[.string (S p.d), .string (S p.c), .slice p.a p.l.length p.n]) (hB : B ≤ w.heap.size) (hl : l.length ≤ 2097152)
    (h : ∀ g' cap w', OwnA w' B (.slice (some ⟨g', 0, none⟩) (l.length + 1) cap) (l ++ [p]) → (∀ b, b < w.heap.size → v.ownBlock ≠ some b → w'.heap[b]? = w.heap[b]?) → Below B w w' → wpList Tryd.prog ops Q rest (a.put o.dst (.slice (some ⟨g', 0, none⟩) (l.length + 1) cap)) w') :
    wpList Tryd.prog ops Q (o :: rest) a w := by
  obtain ⟨i0, hi, hz0, hz1, hz2⟩ := info_parts info_attr
  refine wpList_append_lies w hgd s x 23 ho B 32 i0 _ 3 56 Tryd.underlying23 hi hz0 hz1 hz2 rfl (by decide) v l.length (av l) hs hown ⟨g, 0, none⟩ 1 1 (aV p) hx rfl (World.news_of_block hg) (aV_one p) (by decide) (by unfold maxLen; omega) (by omega) hB w.heap.size rfl ?_
  intro g' cap w' h1 h2 h3 _
  refine h g' cap w' ?_ (fun b hb hne => h2.block b hb (fun hh => hne hh.symm)) ?_
  · unfold OwnA
    rw [av_snoc, List.length_append]
    exact h1
  · refine (Below.refl _ _).grown h2 hB ?_
    intro k hk
    exact (hown.lt _ hk).1
/-- A row of attributes, wherever it lies. -/
def ARow (w : World) (a : Option Addr) (l : List Atr) : Prop := ∀ i (h : i < l.length), (∃ b off, a = some ⟨b, off, none⟩ ∧ w.cell? ⟨b, off + i * 3, none⟩ = some (.string (S l[i].d)) ∧ w.cell? ⟨b, off + i * 3 + 1, none⟩ = some (.string (S l[i].c)) ∧ w.cell? ⟨b, off + i * 3 + 2, none⟩ = some (.slice l[i].a l[i].l.length l[i].n)) ∧ Row w l[i].a l[i].l
theorem ARow.below {w w' : World} {a : Option Addr} {L : List Atr} (h : ARow w a L) (hb : Below w.heap.size w w') : ARow w' a L := fun i hi => by
  obtain ⟨⟨b, off, e, h1, h2, h3⟩, h4⟩ := h i hi
  refine ⟨⟨b, off, e, ?_, ?_, ?_⟩, h4.below hb⟩
  · rw [hb.cell (World.block_lt_of_cell? w _ h1)]; exact h1
  · rw [hb.cell (World.block_lt_of_cell? w _ h2)]; exact h2
  · rw [hb.cell (World.block_lt_of_cell? w _ h3)]; exact h3
theorem ownA_cells {w : World} {B g cap n : Nat} {L : List Atr} (h : OwnA w B (.slice (some ⟨g, 0, none⟩) n cap) L) (i : Nat) (hi : i < L.length) : w.cell? ⟨g, i * 3, none⟩ = some (.string (S L[i].d)) ∧ w.cell? ⟨g, i * 3 + 1, none⟩ = some (.string (S L[i].c)) ∧ w.cell? ⟨g, i * 3 + 2, none⟩ = some (.slice L[i].a L[i].l.length L[i].n) := by
  have hn : n = L.length := by
    obtain ⟨a, c, hv, _⟩ := owns_slice h
    injection hv
  subst hn
  have key : ∀ j, j < 3 → w.cell? ⟨g, i * 3 + j, none⟩ = (aV L[i])[j]? := fun j hj => by
    have hc := World.ownsRow.cellAt (show w.ownsRow B 32 3 _ L.length (av L) from h) (i * 3 + j) (by omega)
    rw [hc]
    exact flatV_at aV 3 aV_len L i hi j hj
  exact ⟨key 0 (by omega), key 1 (by omega), key 2 (by omega)⟩
end Go.Proofs.YtdeeegocjgikoaaDoor
