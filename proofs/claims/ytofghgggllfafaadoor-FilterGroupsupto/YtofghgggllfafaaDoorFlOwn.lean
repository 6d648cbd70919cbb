import Derived.Test.YtofghgggllfafaaDoorDnRow
import Derived.Deep.WholeRow
import Derived.Deep.RegionHeld3
import Derived.Deep.RegionHeldLaw
import Derived.Deep.AppendLies
import Derived.Deep.DeepCutAuto
import Derived.Lib.OthersKept
namespace Go.Proofs.YtofghgggllfafaaDoor
open Go.RowKit
set_option linter.unusedVariables false

/-- A block whose cells are known, all of them. -/
def Box (W : World) (g : Nat) (t : TypeId) (cs : Array Value) : Prop := W.heap[g]? = some (.cells cs t (0, 0))
theorem Box.cell {W : World} {g : Nat} {t : TypeId} {cs : Array Value} (h : Box W g t cs) (j : Nat) (hj : j < cs.size) : W.cell? ⟨g, j, none⟩ = some cs[j] ∧ W.frozen? ⟨g, j, none⟩ = false := by
  refine ⟨?_, Go.frozen_of_row _ _ _ _ _ h⟩
  rw [cell_of_row W g j cs t (0, 0) h]
  simp [hj]
theorem Box.of {W W' : World} {g : Nat} {t : TypeId} {cs : Array Value} (h : Box W g t cs) (e : W'.heap[g]? = W.heap[g]?) : Box W' g t cs := e.trans h
theorem Box.set {W : World} {g : Nat} {t : TypeId} {cs : Array Value} (h : Box W g t cs) (j : Nat) (u : Value) : Box (W.setCell ⟨g, j, none⟩ u) g t (cs.setIfInBounds j u) := Go.heap_setCell_same _ _ _ _ _ _ h
theorem Box.lt {W : World} {g : Nat} {t : TypeId} {cs : Array Value} (h : Box W g t cs) : g < W.heap.size := (Array.getElem?_eq_some_iff.1 h).1
theorem Box.new (W : World) (t : TypeId) (cs : Array Value) : Box (W.alloc (.cells cs t)) W.heap.size t cs := heap_alloc_last W _
theorem Box.past {W : World} {g : Nat} {t : TypeId} {cs : Array Value} (h : Box W g t cs) (o : _) : Box (W.alloc o) g t cs := h.of (Below.heap_alloc _ _ _ h.lt)
theorem Box.below {W W' : World} {g : Nat} {t : TypeId} {cs : Array Value} (h : Box W g t cs) (hb : Below W.heap.size W W') : Box W' g t cs := h.of (hb.block g h.lt)
theorem results_cell (fn : Func) (t : Tmp) (ty : TypeId) (h : fn.results = #[.cell t ty]) (tmps : Array Value) (P : Program) (w : World) (p : Addr) (x : Value) (hp : tmps.getD t undef = .pointer (some p)) (hl : (loadVar ty p).run P w = .ok x w) :
    (results fn tmps).run P w = .ok x w := by
  have hp' : tmps[t]?.getD undef = .pointer (some p) := by rw [← hp]; simp
  simp [results, h, hp', asAddr, hl]

theorem owns_same {w w' : World} {B k n : Nat} {e : TypeId} {v : Value} {xs : List Value} (h : w.ownsRow B e k v n xs) (hb : ∀ g, v.ownBlock = some g → w'.heap[g]? = w.heap[g]?) : w'.ownsRow B e k v n xs := by
  rcases h with ⟨h1, ⟨rfl, h2⟩ | ⟨g, cap, cur, rfl, h3, h4, h5⟩⟩
  · exact ⟨h1, Or.inl ⟨rfl, h2⟩⟩
  · exact ⟨h1, Or.inr ⟨g, cap, cur, rfl, h3, by rw [hb g rfl]; exact h4, h5⟩⟩
theorem owns_base {w : World} {B B' k n : Nat} {e : TypeId} {v : Value} {xs : List Value} (h : w.ownsRow B e k v n xs) (hb : B' ≤ B) : w.ownsRow B' e k v n xs := by
  rcases h with ⟨h1, ⟨rfl, h2⟩ | ⟨g, cap, cur, rfl, h3, h4, h5⟩⟩
  · exact ⟨h1, Or.inl ⟨rfl, h2⟩⟩
  · exact ⟨h1, Or.inr ⟨g, cap, cur, rfl, Nat.le_trans hb h3, h4, h5⟩⟩
theorem owns_form {w : World} {B k n : Nat} {e : TypeId} {v : Value} {xs : List Value} (h : w.ownsRow B e k v n xs) : (v = .slice none 0 0 ∧ n = 0) ∨ (∃ g cap, v = .slice (some ⟨g, 0, none⟩) n cap ∧ n ≤ cap ∧ B ≤ g ∧ g < w.heap.size) := by
  rcases h with ⟨h1, ⟨rfl, h2⟩ | ⟨g, cap, cur, rfl, h3, h4, h5, _⟩⟩
  · exact Or.inl ⟨rfl, h2⟩
  · exact Or.inr ⟨g, cap, rfl, h5, h3, (Array.getElem?_eq_some_iff.1 h4).1⟩
theorem owns_slice {w : World} {B k n : Nat} {e : TypeId} {v : Value} {xs : List Value} (h : w.ownsRow B e k v n xs) : ∃ a c, v = .slice a n c ∧ n ≤ c := by
  rcases owns_form h with ⟨rfl, rfl⟩ | ⟨g, cap, rfl, h, _⟩
  · exact ⟨_, _, rfl, Nat.le_refl _⟩
  · exact ⟨_, _, rfl, h⟩
theorem owns_cap {w : World} {B k n m c : Nat} {a : Option Addr} {e : TypeId} {xs : List Value} (h : w.ownsRow B e k (.slice a m c) n xs) : m = n ∧ n ≤ c := by
  obtain ⟨a', c', hv, hc⟩ := owns_slice h
  injection hv with _ h1 h2
  subst h2
  exact ⟨h1, hc⟩
/-- A box of one type is no row of another. -/
theorem box_apart {w : World} {B k n g : Nat} {e t : TypeId} {v : Value} {xs : List Value} {cs : Array Value} (hb : Box w g t cs) (h : w.ownsRow B e k v n xs) (hne : e ≠ t) : v.ownBlock ≠ some g := fun hg => by
  rcases h with ⟨h1, ⟨rfl, h2⟩ | ⟨g', cap, cur, rfl, h3, h4, h5, _⟩⟩
  · cases hg
  · injection hg with hg
    subst hg
    rw [hb] at h4
    injection h4 with h4
    injection h4 with _ h4 _
    exact hne h4.symm
theorem owns_apart {w : World} {B B' k k' n n' : Nat} {e e' : TypeId} {v v' : Value} {xs xs' : List Value} (h : w.ownsRow B e k v n xs) (h' : w.ownsRow B' e' k' v' n' xs') (hne : e ≠ e') {g : Nat} (hg : v.ownBlock = some g) : v'.ownBlock ≠ some g := by
  rcases h with ⟨h1, ⟨rfl, h2⟩ | ⟨g', cap, cur, rfl, h3, h4, h5, _⟩⟩
  · cases hg
  · injection hg with hg
    subst hg
    exact box_apart (show Box w g' e cur from h4) h' (Ne.symm hne)

/-- Rows of structs: the cells of one, one behind the other. -/
theorem flatV_len {α : Type} (V : α → List Value) (k : Nat) (hk : ∀ x, (V x).length = k) (l : List α) : (l.flatMap V).length = l.length * k := by
  induction l with
  | nil => simp
  | cons x l ih =>
    rw [List.flatMap_cons, List.length_append, ih, hk, List.length_cons, Nat.succ_mul]
    omega
theorem flatV_at {α : Type} (V : α → List Value) (k : Nat) (hk : ∀ x, (V x).length = k) (l : List α) (i : Nat) (hi : i < l.length) (j : Nat) (hj : j < k) : (l.flatMap V)[i * k + j]? = (V l[i])[j]? := by
  induction l generalizing i with
  | nil => simp at hi
  | cons x l ih =>
    rw [List.flatMap_cons]
    cases i with
    | zero =>
      rw [List.getElem?_append_left (by rw [hk]; omega)]
      simp
    | succ i =>
      have e : (i + 1) * k + j = (V x).length + (i * k + j) := by rw [hk, Nat.succ_mul]; omega
      rw [e, List.getElem?_append_right (by omega), Nat.add_sub_cancel_left, ih i (by simpa using hi)]
      rfl

/-- A node of a filter, and where its inner pieces lie. -/
structure Nod where
  dep : Int
  op : Int
  desc : List UInt8
  val : List UInt8
  ini : List UInt8
  a : Option Addr
  n : Nat
  l : List (List UInt8)
  fin : List UInt8
  rule : List UInt8
  dn : Bool
/-- What it says, wherever its pieces lie. -/
def np (x : Nod) : Int × Int × List UInt8 × List UInt8 × List UInt8 × List (List UInt8) × List UInt8 × List UInt8 × Bool := (x.dep, x.op, x.desc, x.val, x.ini, x.l, x.fin, x.rule, x.dn)
/-- Do two nodes say the same? -/
def nb (x y : Nod) : Bool := decide (x.dep = y.dep) && decide (x.op = y.op) && decide (x.desc = y.desc) && decide (x.val = y.val) && decide (x.ini = y.ini) && decide (x.l = y.l) && decide (x.fin = y.fin) && decide (x.rule = y.rule) && decide (x.dn = y.dn)
theorem nb_iff (x y : Nod) : nb x y = true ↔ np x = np y := by
  simp only [nb, np, Bool.and_eq_true, decide_eq_true_eq, Prod.mk.injEq, and_assoc]
theorem nb_no {x y : Nod} (h : ¬ np x = np y) : nb x y = false := by
  cases e : nb x y with
  | false => rfl
  | true => exact absurd ((nb_iff x y).1 e) h
/-- Do two lists say the same? -/
def fb : List Nod → List Nod → Bool
  | [], [] => true
  | x :: xs, y :: ys => nb x y && fb xs ys
  | [], _ :: _ => false
  | _ :: _, [] => false
theorem fb_iff : ∀ xs ys : List Nod, fb xs ys = true ↔ xs.map np = ys.map np
  | [], [] => by simp [fb]
  | x :: xs, y :: ys => by
    simp only [fb, Bool.and_eq_true, nb_iff, fb_iff xs ys, List.map_cons, List.cons.injEq]
  | [], y :: ys => by simp [fb]
  | x :: xs, [] => by simp [fb]
theorem fb_yes {xs ys : List Nod} (h : xs.map np = ys.map np) : fb xs ys = true := (fb_iff xs ys).2 h
theorem fb_no {xs ys : List Nod} (h : ¬ xs.map np = ys.map np) : fb xs ys = false := by
  cases e : fb xs ys with
  | false => rfl
  | true => exact absurd ((fb_iff xs ys).1 e) h
theorem fb_sym (xs ys : List Nod) : fb xs ys = fb ys xs := by
  by_cases h : xs.map np = ys.map np
  · rw [fb_yes h, fb_yes h.symm]
  · rw [fb_no h, fb_no (fun e => h e.symm)]
theorem fb_len {xs ys : List Nod} (h : ¬ xs.length = ys.length) : fb xs ys = false := fb_no (fun e => h (by simpa using congrArg List.length e))
theorem np_step {xs ys : List Nod} {i : Nat} (h : (xs.take i).map np = (ys.take i).map np) (h1 : i < xs.length) (h2 : i < ys.length) (e : np xs[i] = np ys[i]) : (xs.take (i + 1)).map np = (ys.take (i + 1)).map np := by
  rw [List.take_succ_eq_append_getElem h1, List.take_succ_eq_append_getElem h2, List.map_append, List.map_append, h]
  simp [e]
theorem np_at {xs ys : List Nod} {i : Nat} (h1 : i < xs.length) (h2 : i < ys.length) (e : ¬ np xs[i] = np ys[i]) : fb xs ys = false := fb_no (fun q => e (by
  have h3 : (xs.map np)[i]? = (ys.map np)[i]? := by rw [q]
  simpa [h1, h2] using h3))
def nV (x : Nod) : List Value := [.int .i64 x.dep, .int .i64 x.op, .string (S x.desc), .string (S x.val), .string (S x.ini), .slice x.a x.l.length x.n, .string (S x.fin), .string (S x.rule), .bool x.dn]
abbrev nA (x : Nod) : Array Value := #[.int .i64 x.dep, .int .i64 x.op, .string (S x.desc), .string (S x.val), .string (S x.ini), .slice x.a x.l.length x.n, .string (S x.fin), .string (S x.rule), .bool x.dn]
def nv (l : List Nod) : List Value := l.flatMap nV
theorem nV_len (x : Nod) : (nV x).length = 9 := rfl
theorem nv_snoc (l : List Nod) (p : Nod) : nv (l ++ [p]) = nv l ++ nV p := by simp [nv]
theorem nV_one (p : Nod) : ∀ u ∈ nV p, u.oneCell' = true := by
  intro u hu
  simp [nV] at hu
  rcases hu with rfl | rfl | rfl | rfl | rfl | rfl | rfl | rfl | rfl <;> rfl
theorem info_nod : (Tryd.prog.info? 38).map (fun i => (i.zero, i.size, i.bytes)) = some (some (.agg #[.int .i64 0, .int .i64 0, .string ⟨#[]⟩, .string ⟨#[]⟩, .string ⟨#[]⟩, .slice none 0 0, .string ⟨#[]⟩, .string ⟨#[]⟩, .bool false]), 9, 128) := by kernel_rfl
def OwnN (W : World) (B : Nat) (v : Value) (l : List Nod) : Prop := W.ownsRow B 38 9 v l.length (nv l)
theorem ownN_nil (W : World) (B : Nat) : OwnN W B (.slice none 0 0) [] := ⟨rfl, Or.inl ⟨rfl, rfl⟩⟩
/-- One node appended, in a walk. -/
theorem push_nod (w : World) {ops : Array Oper} {rest : List Oper} {o : Oper} {a : Act} {Q : Exit → Act → World → Prop} (hgd : o.guard = none) (s x : Operand)
    (ho : o.op = .call { callee := .builtin .append, args := #[s, x], argTypes := #[23, 23] }) (B : Nat) (v : Value) (l : List Nod) (p : Nod) (g : Nat)
    (hs : a.eval s = v) (hx : a.eval x = .slice (some ⟨g, 0, none⟩) 1 1) (hown : OwnN w B v l) (hg : Box w g 38 (nA p)) (hB : B ≤ w.heap.size) (hl : l.length ≤ 2097152)
    (h : ∀ g' cap w', OwnN w' B (.slice (some ⟨g', 0, none⟩) (l.length + 1) cap) (l ++ [p]) → (∀ b, b < w.heap.size → v.ownBlock ≠ some b → w'.heap[b]? = w.heap[b]?) → Below B w w' → wpList Tryd.prog ops Q rest (a.put o.dst (.slice (some ⟨g', 0, none⟩) (l.length + 1) cap)) w') :
    wpList Tryd.prog ops Q (o :: rest) a w := by
  obtain ⟨i0, hi, hz0, hz1, hz2⟩ := info_parts info_nod
  refine wpList_append_lies w hgd s x 23 ho B 38 i0 _ 9 128 Tryd.underlying23 hi hz0 hz1 hz2 rfl (by decide) v l.length (nv l) hs hown ⟨g, 0, none⟩ 1 1 (nV p) hx rfl (World.news_of_block hg) (nV_one p) (by decide) (by unfold maxLen; omega) (by omega) hB w.heap.size rfl ?_
  intro g' cap w' h1 h2 h3 _
  refine h g' cap w' ?_ (fun b hb hne => h2.block b hb (fun hh => hne hh.symm)) ?_
  · unfold OwnN
    rw [nv_snoc, List.length_append]
    exact h1
  · refine (Below.refl _ _).grown h2 hB ?_
    intro k hk
    exact (hown.lt _ hk).1
/-- A row of nodes, wherever it lies. -/
def FRow (w : World) (a : Option Addr) (l : List Nod) : Prop := ∀ i (h : i < l.length), (∃ b off, a = some ⟨b, off, none⟩ ∧ ∀ j, j < 9 → w.cell? ⟨b, off + i * 9 + j, none⟩ = (nV l[i])[j]?) ∧ Row w l[i].a l[i].l
theorem FRow.nil (w : World) (a : Option Addr) : FRow w a [] := fun i hi => by simp at hi
theorem FRow.below {w w' : World} {a : Option Addr} {L : List Nod} (h : FRow w a L) (hb : Below w.heap.size w w') : FRow w' a L := fun i hi => by
  obtain ⟨⟨b, off, e, h1⟩, h4⟩ := h i hi
  refine ⟨⟨b, off, e, fun j hj => ?_⟩, h4.below hb⟩
  have h2 := h1 j hj
  rw [hb.cell, h2]
  rw [List.getElem?_eq_getElem (by rw [nV_len]; exact hj)] at h2
  exact World.block_lt_of_cell? w _ h2
theorem FRow.at {w : World} {a : Option Addr} {L : List Nod} (h : FRow w a L) (i : Nat) (hi : i < L.length) : ∃ b off, a = some ⟨b, off, none⟩ ∧ w.cell? ⟨b, off + i * 9, none⟩ = some (.int .i64 L[i].dep) ∧ w.cell? ⟨b, off + i * 9 + 1, none⟩ = some (.int .i64 L[i].op) ∧ w.cell? ⟨b, off + i * 9 + 2, none⟩ = some (.string (S L[i].desc)) ∧ w.cell? ⟨b, off + i * 9 + 3, none⟩ = some (.string (S L[i].val)) ∧ w.cell? ⟨b, off + i * 9 + 4, none⟩ = some (.string (S L[i].ini)) ∧ w.cell? ⟨b, off + i * 9 + 5, none⟩ = some (.slice L[i].a L[i].l.length L[i].n) ∧ w.cell? ⟨b, off + i * 9 + 6, none⟩ = some (.string (S L[i].fin)) ∧ w.cell? ⟨b, off + i * 9 + 7, none⟩ = some (.string (S L[i].rule)) ∧ w.cell? ⟨b, off + i * 9 + 8, none⟩ = some (.bool L[i].dn) := by
  obtain ⟨⟨b, off, e, h1⟩, _⟩ := h i hi
  exact ⟨b, off, e, h1 0 (by omega), h1 1 (by omega), h1 2 (by omega), h1 3 (by omega), h1 4 (by omega), h1 5 (by omega), h1 6 (by omega), h1 7 (by omega), h1 8 (by omega)⟩
theorem FRow.front {w : World} {a : Option Addr} {l k : List Nod} (h : FRow w a (l ++ k)) : FRow w a l := fun i hi => by
  have h1 := h i (by rw [List.length_append]; omega)
  rw [List.getElem_append_left hi] at h1
  exact h1
/-- A list of nodes of the call's own, with its pieces. -/
def OwnF (W : World) (B : Nat) (v : Value) (l : List Nod) : Prop := OwnN W B v l ∧ ∀ y ∈ l, OwnS W B (.slice y.a y.l.length y.n) y.l
theorem ownN_cells {w : World} {B g cap n : Nat} {L : List Nod} (h : OwnN w B (.slice (some ⟨g, 0, none⟩) n cap) L) (i : Nat) (hi : i < L.length) (j : Nat) (hj : j < 9) : w.cell? ⟨g, i * 9 + j, none⟩ = (nV L[i])[j]? := by
  have hn : n = L.length := by
    obtain ⟨a, c, hv, _⟩ := owns_slice h
    injection hv
  subst hn
  have hc := World.ownsRow.cellAt (show w.ownsRow B 38 9 _ L.length (nv L) from h) (i * 9 + j) (by omega)
  rw [hc]
  exact flatV_at nV 9 nV_len L i hi j hj
theorem OwnF.row {w : World} {B : Nat} {v : Value} {L : List Nod} (h : OwnF w B v L) : ∃ a c, v = .slice a L.length c ∧ L.length ≤ c ∧ FRow w a L := by
  rcases owns_form h.1 with ⟨rfl, h0⟩ | ⟨g, cap, rfl, hc, _⟩
  · exact ⟨none, 0, by rw [h0], by omega, fun i hi => by omega⟩
  · refine ⟨_, cap, rfl, hc, fun i hi => ⟨⟨g, 0, rfl, fun j hj => ?_⟩, ?_⟩⟩
    · rw [Nat.zero_add]
      exact ownN_cells h.1 i hi j hj
    · exact (ownS_row (h.2 _ (List.getElem_mem hi))).1
theorem OwnF.below {w w' : World} {B : Nat} {v : Value} {L : List Nod} (h : OwnF w B v L) (hb : Below w.heap.size w w') : OwnF w' B v L :=
  ⟨owns_same h.1 (fun g hg => hb.block g (World.ownsRow.lt h.1 g hg).2), fun y hy => ownS_below (h.2 y hy) hb⟩
theorem OwnF.base {w : World} {B B' : Nat} {v : Value} {L : List Nod} (h : OwnF w B v L) (hb : B' ≤ B) : OwnF w B' v L :=
  ⟨owns_base h.1 hb, fun y hy => owns_base (h.2 y hy) hb⟩
theorem own_empty (w : World) : OwnS (w.alloc (.cells #[] 9)) w.heap.size (.slice (some ⟨w.heap.size, 0, none⟩) 0 0) [] :=
  ⟨rfl, Or.inr ⟨w.heap.size, 0, #[], rfl, Nat.le_refl _, heap_alloc_new w _, Nat.le_refl _, by unfold maxLen; omega, rfl, rfl⟩⟩
end Go.Proofs.YtofghgggllfafaaDoor
