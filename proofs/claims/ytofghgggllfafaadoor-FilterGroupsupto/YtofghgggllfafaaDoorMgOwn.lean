import Derived.Test.YtofghgggllfafaaDoorFlOwn
import Derived.Lib.AppendZeros
import Derived.BigQuiet
import Derived.Laws.StructEq
namespace Go.Proofs.YtofghgggllfafaaDoor
open Go.RowKit
set_option linter.unusedVariables false

theorem drewN_below (W : World) (B q : Nat) : Below B W (W.drewN q) := ⟨rfl, rfl, rfl, Nat.le_refl _, fun _ _ => rfl⟩
/-- The mark behind a list. -/
def spr : List UInt8 := [115, 112, 97, 114, 101]
/-- A list of texts that lies marked. -/
def Mkd (W : World) (B g cap : Nat) (l : List (List UInt8)) : Prop := OwnS W B (.slice (some ⟨g, 0, none⟩) (l.length + 1) cap) (l ++ [spr])
theorem Mkd.lt {W : World} {B g cap : Nat} {l : List (List UInt8)} (h : Mkd W B g cap l) : B ≤ g ∧ g < W.heap.size ∧ l.length + 1 ≤ cap := by
  rcases owns_form (show W.ownsRow B 9 1 _ _ _ from h) with ⟨h1, _⟩ | ⟨g', cap', h1, h2, h3, h4⟩
  · cases h1
  · injection h1 with h1 _ h5
    injection h1 with h1
    injection h1 with h1
    subst h1 h5
    rw [List.length_append] at h2
    exact ⟨h3, h4, h2⟩
theorem Mkd.of {W W' : World} {B g cap : Nat} {l : List (List UInt8)} (h : Mkd W B g cap l) (e : W'.heap[g]? = W.heap[g]?) : Mkd W' B g cap l :=
  owns_same (show W.ownsRow B 9 1 _ _ _ from h) (fun g' hg => by injection hg with hg; subst hg; exact e)
theorem Mkd.below {W W' : World} {B g cap : Nat} {l : List (List UInt8)} (h : Mkd W B g cap l) (hb : Below W.heap.size W W') : Mkd W' B g cap l := h.of (hb.block g h.lt.2.1)
theorem Mkd.base {W : World} {B B' g cap : Nat} {l : List (List UInt8)} (h : Mkd W B g cap l) (hb : B' ≤ B) : Mkd W B' g cap l := owns_base (show W.ownsRow B 9 1 _ _ _ from h) hb
theorem Mkd.row {W : World} {B g cap : Nat} {l : List (List UInt8)} (h : Mkd W B g cap l) : Row W (some ⟨g, 0, none⟩) (l ++ [spr]) := (ownS_row h).1
/-- The same, for reading alone. -/
def MkT (w : World) (a : Option Addr) (c : Nat) (l : List (List UInt8)) : Prop := Row w a (l ++ [spr]) ∧ l.length + 1 ≤ c
theorem Mkd.read {W : World} {B g cap : Nat} {l : List (List UInt8)} (h : Mkd W B g cap l) : MkT W (some ⟨g, 0, none⟩) cap l := ⟨h.row, h.lt.2.2⟩
theorem MkT.below {w w' : World} {a : Option Addr} {c : Nat} {l : List (List UInt8)} (h : MkT w a c l) (hb : Below w.heap.size w w') : MkT w' a c l := ⟨h.1.below hb, h.2⟩
theorem MkT.row {w : World} {a : Option Addr} {c : Nat} {l : List (List UInt8)} (h : MkT w a c l) : Row w a l := h.1.front

/-- Where a struct's list of texts lies, its room, the texts. -/
abbrev TX := Option Addr × Nat × List (List UInt8)
/-- A row of structs, wherever it lies. -/
def GRow {α : Type} (k : Nat) (V : α → List Value) (w : World) (a : Option Addr) (l : List α) : Prop := ∀ i (h : i < l.length), ∃ b off, a = some ⟨b, off, none⟩ ∧ ∀ j, j < k → w.cell? ⟨b, off + i * k + j, none⟩ = (V l[i])[j]?
theorem GRow.below {α : Type} {k : Nat} {V : α → List Value} (hV : ∀ x, (V x).length = k) {w w' : World} {a : Option Addr} {l : List α} (h : GRow k V w a l) (hb : Below w.heap.size w w') : GRow k V w' a l := fun i hi => by
  obtain ⟨b, off, e, h1⟩ := h i hi
  refine ⟨b, off, e, fun j hj => ?_⟩
  have h2 := h1 j hj
  rw [hb.cell, h2]
  rw [List.getElem?_eq_getElem (by rw [hV]; exact hj)] at h2
  exact World.block_lt_of_cell? w _ h2
theorem GRow.front {α : Type} {k : Nat} {V : α → List Value} {w : World} {a : Option Addr} {l m : List α} (h : GRow k V w a (l ++ m)) : GRow k V w a l := fun i hi => by
  have h1 := h i (by rw [List.length_append]; omega)
  rw [List.getElem_append_left hi] at h1
  exact h1
theorem GRow.nil {α : Type} (k : Nat) (V : α → List Value) (w : World) (a : Option Addr) : GRow k V w a [] := fun i hi => by simp at hi
/-- A row of structs of the call's own. -/
def GOwn {α : Type} (t : TypeId) (k : Nat) (V : α → List Value) (W : World) (B : Nat) (v : Value) (l : List α) : Prop := W.ownsRow B t k v l.length (l.flatMap V)
theorem GOwn.nil {α : Type} (t : TypeId) (k : Nat) (V : α → List Value) (W : World) (B : Nat) : GOwn t k V W B (.slice none 0 0) [] := ⟨by simp, Or.inl ⟨rfl, rfl⟩⟩
theorem GOwn.row {α : Type} {t : TypeId} {k : Nat} {V : α → List Value} (hV : ∀ x, (V x).length = k) {w : World} {B : Nat} {v : Value} {L : List α} (h : GOwn t k V w B v L) : ∃ a c, v = .slice a L.length c ∧ L.length ≤ c ∧ GRow k V w a L := by
  rcases owns_form h with ⟨rfl, h0⟩ | ⟨g, cap, rfl, hc, _⟩
  · exact ⟨none, 0, by rw [h0], by omega, fun i hi => by omega⟩
  · refine ⟨_, cap, rfl, hc, fun i hi => ⟨g, 0, rfl, fun j hj => ?_⟩⟩
    rw [Nat.zero_add]
    have hlt : i * k + j < L.length * k := by
      have : (i + 1) * k ≤ L.length * k := Nat.mul_le_mul_right k hi
      rw [Nat.succ_mul] at this
      omega
    have hc := World.ownsRow.cellAt (show w.ownsRow B t k _ L.length (L.flatMap V) from h) (i * k + j) hlt
    rw [hc]
    exact flatV_at V k hV L i hi j hj
/-- What is known of a type of structs. -/
def Kd {α : Type} (t ts : TypeId) (k nb : Nat) (V : α → List Value) : Prop :=
  Tryd.prog.underlying ts = some (.slice t) ∧ (∃ i z, Tryd.prog.info? t = some i ∧ i.zero = some z ∧ i.size = k ∧ i.bytes = nb ∧ z.cells.size = k) ∧ 0 < k ∧ (∀ x, (V x).length = k) ∧ (∀ x, ∀ u ∈ V x, u.oneCell' = true) ∧ t ≠ 9
/-- One struct appended, in a walk. -/
theorem push_gen {α : Type} {t ts : TypeId} {k nb : Nat} {V : α → List Value} (KD : Kd t ts k nb V) (w : World) {ops : Array Oper} {rest : List Oper} {o : Oper} {a : Act} {Q : Exit → Act → World → Prop} (hgd : o.guard = none) (s x : Operand)
    (ho : o.op = .call { callee := .builtin .append, args := #[s, x], argTypes := #[ts, ts] }) (B : Nat) (v : Value) (l : List α) (p : α) (g : Nat)
    (hs : a.eval s = v) (hx : a.eval x = .slice (some ⟨g, 0, none⟩) 1 1) (hown : GOwn t k V w B v l) (hg : Box w g t (V p).toArray) (hB : B ≤ w.heap.size) (hbt : (l.length + 1) * nb ≤ 140737488355328) (hnb : 1 ≤ nb)
    (h : ∀ g' cap w', GOwn t k V w' B (.slice (some ⟨g', 0, none⟩) (l.length + 1) cap) (l ++ [p]) → (∀ b, b < w.heap.size → v.ownBlock ≠ some b → w'.heap[b]? = w.heap[b]?) → Below B w w' → wpList Tryd.prog ops Q rest (a.put o.dst (.slice (some ⟨g', 0, none⟩) (l.length + 1) cap)) w') :
    wpList Tryd.prog ops Q (o :: rest) a w := by
  obtain ⟨hund, ⟨i0, z0, hi, hz0, hz1, hz2, hz3⟩, hk, hV, h1V, _⟩ := KD
  have hl : l.length + 1 ≤ 140737488355328 := Nat.le_trans (Nat.le_mul_of_pos_right _ hnb) hbt
  refine wpList_append_lies w hgd s x ts ho B t i0 z0 k nb hund hi hz0 hz1 hz2 hz3 hk v l.length (l.flatMap V) hs hown ⟨g, 0, none⟩ 1 1 (V p) hx (by rw [hV, Nat.one_mul]) (World.news_of_block hg) (h1V p) (by decide) (by unfold maxLen; omega) hbt hB w.heap.size rfl ?_
  intro g' cap w' h1 h2 h3 _
  refine h g' cap w' ?_ (fun b hb hne => h2.block b hb (fun hh => hne hh.symm)) ?_
  · unfold GOwn
    rw [List.flatMap_append, List.length_append]
    have e : ([p] : List α).flatMap V = V p := by simp
    rw [e]
    exact h1
  · refine (Below.refl _ _).grown h2 hB ?_
    intro k' hk'
    exact (World.ownsRow.lt (show w.ownsRow B t k v l.length (l.flatMap V) from hown) _ hk').1
/-- A list of the call's own, its texts marked. -/
def OwnM {α : Type} (t : TypeId) (k : Nat) (V : α → List Value) (T : α → TX) (W : World) (B : Nat) (v : Value) (l : List α) : Prop := GOwn t k V W B v l ∧ ∀ y ∈ l, ∃ g, (T y).1 = some ⟨g, 0, none⟩ ∧ Mkd W B g (T y).2.1 (T y).2.2
theorem OwnM.nil {α : Type} (t : TypeId) (k : Nat) (V : α → List Value) (T : α → TX) (W : World) (B : Nat) : OwnM t k V T W B (.slice none 0 0) [] := ⟨GOwn.nil _ _ _ _ _, fun y hy => by cases hy⟩
theorem OwnM.keep {α : Type} {t : TypeId} {k : Nat} {V : α → List Value} {T : α → TX} {w w' : World} {B : Nat} {v : Value} {L : List α} (h : OwnM t k V T w B v L) (hk : ∀ b, b < w.heap.size → w'.heap[b]? = w.heap[b]?) : OwnM t k V T w' B v L :=
  ⟨owns_same (show w.ownsRow B t k _ _ _ from h.1) (fun b hb => hk b (World.ownsRow.lt (show w.ownsRow B t k _ _ _ from h.1) b hb).2), fun y hy => by
    obtain ⟨g, e, hm⟩ := h.2 y hy
    exact ⟨g, e, hm.of (hk g hm.lt.2.1)⟩⟩
theorem OwnM.slice {α : Type} {t : TypeId} {k : Nat} {V : α → List Value} {T : α → TX} {w : World} {B : Nat} {v : Value} {L : List α} (h : OwnM t k V T w B v L) : ∃ a c, v = .slice a L.length c := by
  obtain ⟨a, c, e, _⟩ := owns_slice (show w.ownsRow B t k _ _ _ from h.1)
  exact ⟨a, c, e⟩
theorem Mkd.apart {α : Type} {t : TypeId} {k : Nat} {V : α → List Value} (ht : t ≠ 9) {w : World} {B g c : Nat} {v : Value} {L : List α} {l : List (List UInt8)} (h : GOwn t k V w B v L) (hm : Mkd w B g c l) : v.ownBlock ≠ some g := fun hh =>
  owns_apart (show w.ownsRow B t k _ _ _ from h) (show w.ownsRow B 9 1 _ _ _ from hm) ht hh rfl
theorem ownM_push {α : Type} {t : TypeId} {k : Nat} {V : α → List Value} {T : α → TX} (ht : t ≠ 9) {w w' : World} {B : Nat} {v v' : Value} {L : List α} {y : α} (h : OwnM t k V T w B v L) (hy : ∃ g, (T y).1 = some ⟨g, 0, none⟩ ∧ Mkd w B g (T y).2.1 (T y).2.2) (h1 : GOwn t k V w' B v' (L ++ [y])) (h2 : ∀ b, b < w.heap.size → v.ownBlock ≠ some b → w'.heap[b]? = w.heap[b]?) : OwnM t k V T w' B v' (L ++ [y]) := by
  refine ⟨h1, fun z hz => ?_⟩
  have key : ∀ z : α, (∃ g, (T z).1 = some ⟨g, 0, none⟩ ∧ Mkd w B g (T z).2.1 (T z).2.2) → ∃ g, (T z).1 = some ⟨g, 0, none⟩ ∧ Mkd w' B g (T z).2.1 (T z).2.2 := fun z ⟨g, e, hm⟩ =>
    ⟨g, e, hm.of (h2 g hm.lt.2.1 (Mkd.apart ht h.1 hm))⟩
  rcases List.mem_append.1 hz with hz | hz
  · exact key z (h.2 z hz)
  · have : z = y := by simpa using hz
    subst this
    exact key _ hy
/-- A list for reading, z behind its end, its texts marked. -/
def MkG {α : Type} (k : Nat) (V : α → List Value) (T : α → TX) (z : α) (w : World) (a : Option Addr) (c : Nat) (ys : List α) : Prop := GRow k V w a (ys ++ [z]) ∧ ys.length + 1 ≤ c ∧ ∀ y ∈ ys, MkT w (T y).1 (T y).2.1 (T y).2.2
theorem MkG.below {α : Type} {k : Nat} {V : α → List Value} (hV : ∀ x, (V x).length = k) {T : α → TX} {z : α} {w w' : World} {a : Option Addr} {c : Nat} {ys : List α} (h : MkG k V T z w a c ys) (hb : Below w.heap.size w w') : MkG k V T z w' a c ys :=
  ⟨h.1.below hV hb, h.2.1, fun y hy => (h.2.2 y hy).below hb⟩
theorem mkG_of {α : Type} {t : TypeId} {k : Nat} {V : α → List Value} {T : α → TX} (ht : t ≠ 9) (hV : ∀ x, (V x).length = k) {w w' : World} {B g cap : Nat} {v : Value} {L : List α} {z : α} (h : OwnM t k V T w B v L) (h1 : GOwn t k V w' B (.slice (some ⟨g, 0, none⟩) (L.length + 1) cap) (L ++ [z])) (h2 : ∀ b, b < w.heap.size → v.ownBlock ≠ some b → w'.heap[b]? = w.heap[b]?) : MkG k V T z w' (some ⟨g, 0, none⟩) cap L := by
  obtain ⟨a, c, e, hc, hr⟩ := h1.row hV
  injection e with e1 e2 e3
  subst e1 e3
  rw [List.length_append] at hc
  refine ⟨hr, hc, fun y hy => ?_⟩
  obtain ⟨g', e, hm⟩ := h.2 y hy
  have := (hm.of (h2 g' hm.lt.2.1 (Mkd.apart ht h.1 hm))).read
  rw [e]
  exact this
/-- Two worlds agree on the blocks from B on. -/
def Agr (B : Nat) (w W : World) : Prop := ∀ b, B ≤ b → b < w.heap.size → W.heap[b]? = w.heap[b]?
theorem Agr.refl (B : Nat) (w : World) : Agr B w w := fun _ _ _ => rfl
theorem mkB_of {α : Type} {t : TypeId} {k : Nat} {V : α → List Value} {T : α → TX} (ht : t ≠ 9) (hV : ∀ x, (V x).length = k) {w w' : World} {B g cap : Nat} {v : Value} {L : List α} {z : α} (h : OwnM t k V T w B v L) (h1 : GOwn t k V w' B (.slice (some ⟨g, 0, none⟩) (L.length + 1) cap) (L ++ [z])) (h2 : ∀ b, b < w.heap.size → v.ownBlock ≠ some b → w'.heap[b]? = w.heap[b]?) (W : World) (hW : Agr B w' W) : MkG k V T z W (some ⟨g, 0, none⟩) cap L := by
  have h1' : GOwn t k V W B (.slice (some ⟨g, 0, none⟩) (L.length + 1) cap) (L ++ [z]) := owns_same (show w'.ownsRow B t k _ _ _ from h1) (fun b hb => hW b (World.ownsRow.lt (show w'.ownsRow B t k _ _ _ from h1) b hb).1 (World.ownsRow.lt (show w'.ownsRow B t k _ _ _ from h1) b hb).2)
  obtain ⟨a, c, e, hc, hr⟩ := h1'.row hV
  injection e with e1 e2 e3
  subst e1 e3
  rw [List.length_append] at hc
  refine ⟨hr, hc, fun y hy => ?_⟩
  obtain ⟨g', e, hm⟩ := h.2 y hy
  have hm' := hm.of (h2 g' hm.lt.2.1 (Mkd.apart ht h.1 hm))
  have := (hm'.of (hW g' hm'.lt.1 hm'.lt.2.1)).read
  rw [e]
  exact this
/-- A list for reading, its texts too. -/
def RdG {α : Type} (k : Nat) (V : α → List Value) (T : α → TX) (w : World) (a : Option Addr) (ys : List α) : Prop := GRow k V w a ys ∧ ∀ y ∈ ys, Row w (T y).1 (T y).2.2
theorem RdG.below {α : Type} {k : Nat} {V : α → List Value} (hV : ∀ x, (V x).length = k) {T : α → TX} {w w' : World} {a : Option Addr} {ys : List α} (h : RdG k V T w a ys) (hb : Below w.heap.size w w') : RdG k V T w' a ys :=
  ⟨h.1.below hV hb, fun y hy => (h.2 y hy).below hb⟩
theorem MkG.rd {α : Type} {k : Nat} {V : α → List Value} {T : α → TX} {z : α} {w : World} {a : Option Addr} {c : Nat} {ys : List α} (h : MkG k V T z w a c ys) : RdG k V T w a ys :=
  ⟨h.1.front, fun y hy => (h.2.2 y hy).row⟩

def nT (x : Nod) : TX := (x.a, x.n, x.l)
def zNo : Nod := ⟨0, 0, spr, [], [], none, 0, [], [], [], false⟩
theorem kd_nod : Kd 38 23 9 128 nV := by
  obtain ⟨i0, hi, hz0, hz1, hz2⟩ := info_parts info_nod
  exact ⟨Tryd.underlying23, ⟨i0, _, hi, hz0, hz1, hz2, rfl⟩, by decide, nV_len, nV_one, by decide⟩
/-- A change. -/
structure Chg where
  kind : Int
  desc : List UInt8
  a : Option Addr
  n : Nat
  l : List (List UInt8)
def cV (x : Chg) : List Value := [.int .i64 x.kind, .string (S x.desc), .slice x.a x.l.length x.n]
theorem cV_len (x : Chg) : (cV x).length = 3 := rfl
theorem cV_one (p : Chg) : ∀ u ∈ cV p, u.oneCell' = true := by
  intro u hu
  simp [cV] at hu
  rcases hu with rfl | rfl | rfl <;> rfl
def cT (x : Chg) : TX := (x.a, x.n, x.l)
def cP (x : Chg) : Int × List UInt8 × List (List UInt8) := (x.kind, x.desc, x.l)
def zCh : Chg := ⟨0, spr, none, 0, []⟩
/-- An attribute. -/
structure Att where
  desc : List UInt8
  can : List UInt8
  a : Option Addr
  n : Nat
  l : List (List UInt8)
def tV (x : Att) : List Value := [.string (S x.desc), .string (S x.can), .slice x.a x.l.length x.n]
theorem tV_len (x : Att) : (tV x).length = 3 := rfl
theorem tV_one (p : Att) : ∀ u ∈ tV p, u.oneCell' = true := by
  intro u hu
  simp [tV] at hu
  rcases hu with rfl | rfl | rfl <;> rfl
def tT (x : Att) : TX := (x.a, x.n, x.l)
def tP (x : Att) : List UInt8 × List UInt8 × List (List UInt8) := (x.desc, x.can, x.l)
def zAt : Att := ⟨spr, [], none, 0, []⟩
/-- A control. -/
structure Ctl where
  oid : List UInt8
  crit : Bool
  val : List UInt8
  has : Bool
def oV (x : Ctl) : List Value := [.string (S x.oid), .bool x.crit, .string (S x.val), .bool x.has]
theorem oV_len (x : Ctl) : (oV x).length = 4 := rfl
theorem oV_one (p : Ctl) : ∀ u ∈ oV p, u.oneCell' = true := by
  intro u hu
  simp [oV] at hu
  rcases hu with rfl | rfl | rfl | rfl <;> rfl
def zCt : Ctl := ⟨spr, false, [], false⟩
end Go.Proofs.YtofghgggllfafaaDoor
