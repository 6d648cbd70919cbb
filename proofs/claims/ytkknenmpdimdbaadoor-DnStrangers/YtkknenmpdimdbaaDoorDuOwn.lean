import Derived.Test.YtkknenmpdimdbaaDoorChecked
import Derived.WalkKit
import Derived.Laws.StructEq

import Derived.Test.YtkknenmpdimdbaaDoorBytes
import Derived.Deep.WholeRow
import Derived.Deep.RegionHeld3
import Derived.Deep.RegionHeldLaw
import Derived.Deep.AppendLies
import Derived.Deep.DeepCutAuto
import Derived.Lib.OthersKept
import Derived.BigQuiet
import Derived.KernelRfl
namespace Go.Proofs.YtkknenmpdimdbaaDoor
namespace Du
open Go.RowKit
set_option linter.unusedVariables false
set_option maxRecDepth 100000

theorem drewN_below (W : World) (B q : Nat) : Below B W (W.drewN q) := ⟨rfl, rfl, rfl, Nat.le_refl _, fun _ _ => rfl⟩
theorem add_o (b o j : Nat) : (⟨b, o, none⟩ : Addr).add j = ⟨b, o + j, none⟩ := by
  unfold Addr.add
  by_cases h : j = 0
  · subst h; rfl
  · simp [h]
theorem owns_same {w w' : World} {B k n : Nat} {e : TypeId} {v : Value} {xs : List Value} (h : w.ownsRow B e k v n xs) (hb : ∀ g, v.ownBlock = some g → w'.heap[g]? = w.heap[g]?) : w'.ownsRow B e k v n xs := by
  rcases h with ⟨h1, ⟨rfl, h2⟩ | ⟨g, cap, cur, rfl, h3, h4, h5⟩⟩
  · exact ⟨h1, Or.inl ⟨rfl, h2⟩⟩
  · exact ⟨h1, Or.inr ⟨g, cap, cur, rfl, h3, by rw [hb g rfl]; exact h4, h5⟩⟩
theorem owns_base {w : World} {B B' k n : Nat} {e : TypeId} {v : Value} {xs : List Value} (h : w.ownsRow B e k v n xs) (hb : B' ≤ B) : w.ownsRow B' e k v n xs := by
  rcases h with ⟨h1, ⟨rfl, h2⟩ | ⟨g, cap, cur, rfl, h3, h4, h5⟩⟩
  · exact ⟨h1, Or.inl ⟨rfl, h2⟩⟩
  · exact ⟨h1, Or.inr ⟨g, cap, cur, rfl, Nat.le_trans hb h3, h4, h5⟩⟩
theorem owns_form {w : World} {B k n : Nat} {e : TypeId} {v : Value} {xs : List Value} (h : w.ownsRow B e k v n xs) : (v = .slice none 0 0 ∧ n = 0) ∨ (∃ g cap, v = .slice (some ⟨g, 0, none⟩) n cap ∧ n ≤ cap ∧ cap ≤ maxLen ∧ B ≤ g ∧ g < w.heap.size) := by
  rcases h with ⟨h1, ⟨rfl, h2⟩ | ⟨g, cap, cur, rfl, h3, h4, h5, h6, _⟩⟩
  · exact Or.inl ⟨rfl, h2⟩
  · exact Or.inr ⟨g, cap, rfl, h5, h6, h3, (Array.getElem?_eq_some_iff.1 h4).1⟩
theorem owns_apart {w : World} {B B' k k' n n' : Nat} {e e' : TypeId} {v v' : Value} {xs xs' : List Value} (h : w.ownsRow B e k v n xs) (h' : w.ownsRow B' e' k' v' n' xs') (hne : e ≠ e') {g : Nat} (hg : v.ownBlock = some g) : v'.ownBlock ≠ some g := fun hg' => by
  rcases h with ⟨h1, ⟨rfl, h2⟩ | ⟨g1, cap, cur, rfl, h3, h4, h5, _⟩⟩
  · cases hg
  · injection hg with hg
    subst hg
    rcases h' with ⟨k1, ⟨rfl, k2⟩ | ⟨g2, cap2, cur2, rfl, k3, k4, k5, _⟩⟩
    · cases hg'
    · injection hg' with hg'
      subst hg'
      rw [h4] at k4
      injection k4 with k4
      injection k4 with _ k4 _
      exact hne k4
theorem flatV_len {α : Type} (V : α → List Value) (k : Nat) (hk : ∀ x, (V x).length = k) (l : List α) : (l.flatMap V).length = l.length * k := by
  induction l with
  | nil => simp
  | cons x l ih =>
    rw [List.flatMap_cons, List.length_append, ih, hk, List.length_cons, Nat.succ_mul]
    omega
theorem flatV_at {α : Type} (V : α → List Value) (k : Nat) (hk : ∀ x, (V x).length = k) (l : List α) (i : Nat) (hi : i < l.length) (j : Nat) (hj : j < k) : (l.flatMap V)[i * k + j]? = (V l[i])[j]? := by
  induction l generalizing i with
  | nil => simp at hi
  | cons x l ih =>
    rw [List.flatMap_cons]
    cases i with
    | zero =>
      rw [List.getElem?_append_left (by rw [hk]; omega)]
      simp
    | succ i =>
      have e : (i + 1) * k + j = (V x).length + (i * k + j) := by rw [hk, Nat.succ_mul]; omega
      rw [e, List.getElem?_append_right (by omega), Nat.add_sub_cancel_left, ih i (by simpa using hi)]
      rfl
/-- A row of structs, wherever it lies. -/
def GRow {α : Type} (k : Nat) (V : α → List Value) (w : World) (a : Option Addr) (l : List α) : Prop := ∀ i (h : i < l.length), ∃ b off, a = some ⟨b, off, none⟩ ∧ ∀ j, j < k → w.cell? ⟨b, off + i * k + j, none⟩ = (V l[i])[j]?
theorem GRow.below {α : Type} {k : Nat} {V : α → List Value} (hV : ∀ x, (V x).length = k) {w w' : World} {a : Option Addr} {l : List α} (h : GRow k V w a l) (hb : Below w.heap.size w w') : GRow k V w' a l := fun i hi => by
  obtain ⟨b, off, e, h1⟩ := h i hi
  refine ⟨b, off, e, fun j hj => ?_⟩
  have h2 := h1 j hj
  rw [hb.cell, h2]
  rw [List.getElem?_eq_getElem (by rw [hV]; exact hj)] at h2
  exact World.block_lt_of_cell? w _ h2
theorem GRow.nil {α : Type} (k : Nat) (V : α → List Value) (w : World) (a : Option Addr) : GRow k V w a [] := fun i hi => by simp at hi
theorem GRow.front {α : Type} {k : Nat} {V : α → List Value} {w : World} {a : Option Addr} {l m : List α} (h : GRow k V w a (l ++ m)) : GRow k V w a l := fun i hi => by
  have h1 := h i (by rw [List.length_append]; omega)
  rw [List.getElem_append_left hi] at h1
  exact h1
/-- One struct that has just been laid. -/
theorem GRow.one {α : Type} {k : Nat} (V : α → List Value) (w : World) (t : TypeId) (p : α) : GRow k V (w.alloc (.cells (V p).toArray t)) (some ⟨w.heap.size, 0, none⟩) [p] := fun i hi => by
  have hi0 : i = 0 := by simp at hi; omega
  subst hi0
  refine ⟨_, _, rfl, fun j hj => ?_⟩
  have h1 : (w.alloc (.cells (V p).toArray t)).heap[w.heap.size]? = some (.cells (V p).toArray t (0, 0)) := heap_alloc_new _ _
  rw [cell_of_row _ _ _ _ _ _ h1]
  simp
/-- A row of structs of the call's own. -/
def GOwn {α : Type} (t : TypeId) (k : Nat) (V : α → List Value) (W : World) (B : Nat) (v : Value) (l : List α) : Prop := W.ownsRow B t k v l.length (l.flatMap V)
theorem GOwn.nil {α : Type} (t : TypeId) (k : Nat) (V : α → List Value) (W : World) (B : Nat) : GOwn t k V W B (.slice none 0 0) [] := ⟨by simp, Or.inl ⟨rfl, rfl⟩⟩
theorem GOwn.row {α : Type} {t : TypeId} {k : Nat} {V : α → List Value} (hV : ∀ x, (V x).length = k) {w : World} {B : Nat} {v : Value} {L : List α} (h : GOwn t k V w B v L) : ∃ a c, v = .slice a L.length c ∧ L.length ≤ c ∧ c ≤ maxLen ∧ GRow k V w a L := by
  rcases owns_form h with ⟨rfl, h0⟩ | ⟨g, cap, rfl, hc, hm, _⟩
  · exact ⟨none, 0, by rw [h0], by omega, by unfold maxLen; omega, fun i hi => by omega⟩
  · refine ⟨_, cap, rfl, hc, hm, fun i hi => ⟨g, 0, rfl, fun j hj => ?_⟩⟩
    rw [Nat.zero_add]
    have hlt : i * k + j < L.length * k := by
      have : (i + 1) * k ≤ L.length * k := Nat.mul_le_mul_right k hi
      rw [Nat.succ_mul] at this
      omega
    have hc := World.ownsRow.cellAt (show w.ownsRow B t k _ L.length (L.flatMap V) from h) (i * k + j) hlt
    rw [hc]
    exact flatV_at V k hV L i hi j hj
theorem GOwn.below {α : Type} {t : TypeId} {k : Nat} {V : α → List Value} {w w' : World} {B : Nat} {v : Value} {L : List α} (h : GOwn t k V w B v L) (hb : Below w.heap.size w w') : GOwn t k V w' B v L := owns_same h (fun g hg => hb.block g (World.ownsRow.lt h g hg).2)
/-- What is known of a type of structs. -/
def Kd {α : Type} (t ts : TypeId) (k nb : Nat) (V : α → List Value) : Prop :=
  Tryd.prog.underlying ts = some (.slice t) ∧ (∃ i z, Tryd.prog.info? t = some i ∧ i.zero = some z ∧ i.size = k ∧ i.bytes = nb ∧ z.cells.size = k) ∧ 0 < k ∧ 0 < nb ∧ (∀ x, (V x).length = k) ∧ (∀ x, ∀ u ∈ V x, u.oneCell' = true)
/-- A row appended to a row of the call's own. -/
theorem append_gen {α : Type} {t ts : TypeId} {k nb : Nat} {V : α → List Value} (KD : Kd t ts k nb V) (w : World) (B : Nat) (v : Value) (l m : List α) (a : Option Addr) (n c : Nat) (hown : GOwn t k V w B v l) (hk : GRow k V w a m) (hn : n = m.length) (hB : B ≤ w.heap.size) (hsz : (l.length + m.length) * nb ≤ 140737488355328) :
    ∃ v' w', (Builtin.append_ #[ts, ts] ts #[v, .slice a n c]).run Tryd.prog w = .ok v' w' ∧ GOwn t k V w' B v' (l ++ m) ∧ w.grownBy w' v.ownBlock ∧ Below B w w' := by
  subst hn
  obtain ⟨hund, ⟨i0, z0, hi, hz0, hz1, hz2, hz3⟩, hk0, hnb, hV, h1V⟩ := KD
  by_cases h0 : m.length = 0
  · have hm0 := List.eq_nil_of_length_eq_zero h0
    subst hm0
    refine ⟨v, w, ?_, by rw [List.append_nil]; exact hown, ⟨rfl, rfl, rfl, Nat.le_refl _, fun _ _ _ => rfl⟩, Below.refl _ _⟩
    cases a with
    | none =>
      rcases owns_form hown with ⟨rfl, h2⟩ | ⟨g, cap, rfl, hc, _⟩
      · simp [Builtin.append_, run_underlying hund, sizeOf, typeInfo, hi, Builtin.lenOf, Builtin.firstCells]
      · simp [Builtin.append_, run_underlying hund, sizeOf, typeInfo, hi, Builtin.lenOf, Builtin.firstCells, hc, storeCells]
    | some d =>
      rcases owns_form hown with ⟨rfl, h2⟩ | ⟨g, cap, rfl, hc, _⟩
      · simp [Builtin.append_, run_underlying hund, sizeOf, typeInfo, hi, Builtin.lenOf, Builtin.firstCells, loadCells, loadCellsFrom]
      · simp [Builtin.append_, run_underlying hund, sizeOf, typeInfo, hi, Builtin.lenOf, Builtin.firstCells, loadCells, loadCellsFrom, hc, storeCells]
  · obtain ⟨b, off, rfl, _⟩ := hk 0 (by omega)
    have hnews : ∀ j u, (m.flatMap V)[j]? = some u → w.cell? ((⟨b, off, none⟩ : Addr).add j) = some u := by
      intro j u hj
      have hjn : j < m.length * k := by
        rcases Nat.lt_or_ge j (m.length * k) with h' | h'
        · exact h'
        · rw [List.getElem?_eq_none (by rw [flatV_len V k hV]; exact h')] at hj; cases hj
      have hq : j / k < m.length := Nat.div_lt_of_lt_mul (by rw [Nat.mul_comm]; exact hjn)
      have hr : j % k < k := Nat.mod_lt _ hk0
      have ej : j / k * k + j % k = j := by rw [Nat.mul_comm]; exact Nat.div_add_mod j k
      obtain ⟨b', off', e, hc⟩ := hk (j / k) hq
      injection e with e
      injection e with e1 e2
      subst e1 e2
      have h1 := hc (j % k) hr
      have h2 := flatV_at V k hV m (j / k) hq (j % k) hr
      rw [ej, hj] at h2
      rw [Nat.add_assoc, ej] at h1
      rw [add_o, h1, ← h2]
    have hle : l.length + m.length ≤ 140737488355328 := Nat.le_trans (Nat.le_mul_of_pos_right _ hnb) hsz
    obtain ⟨g, cap, w', hr, h2, h3, _, _⟩ := run_append_lies (P := Tryd.prog) w ts ts B t i0 z0 k nb hund hi hz0 hz1 hz2 hz3 hk0 v l.length (l.flatMap V) hown ⟨b, off, none⟩ m.length c (m.flatMap V) (flatV_len V k hV m) hnews (fun u hu => by obtain ⟨y, _, hy⟩ := List.mem_flatMap.1 hu; exact h1V y u hy) (by omega) (Nat.le_trans hle (by unfold maxLen; decide)) hsz hB w.heap.size rfl
    refine ⟨_, w', hr, ?_, h3, (Below.refl _ _).grown h3 hB (fun j hj => (World.ownsRow.lt (show w.ownsRow B t k v l.length (l.flatMap V) from hown) _ hj).1)⟩
    unfold GOwn
    rw [List.flatMap_append, List.length_append]
    exact h2
abbrev PR := List UInt8 × List UInt8
/-- A part: where it lies, its room, its values. -/
abbrev PX := Option Addr × Nat × List PR
def pV (p : PR) : List Value := [.string (S p.1), .string (S p.2)]
def xV (r : PX) : List Value := [.slice r.1 r.2.2.length r.2.1]
theorem pV_len (p : PR) : (pV p).length = 2 := rfl
theorem xV_len (r : PX) : (xV r).length = 1 := rfl
abbrev PRow (w : World) (a : Option Addr) (l : List PR) : Prop := GRow 2 pV w a l
theorem prow_at {w : World} {a : Option Addr} {l : List PR} (h : PRow w a l) (i : Nat) (hi : i < l.length) : ∃ b off, a = some ⟨b, off, none⟩ ∧ w.cell? ⟨b, off + i * 2, none⟩ = some (.string (S l[i].1)) ∧ w.cell? ⟨b, off + i * 2 + 1, none⟩ = some (.string (S l[i].2)) := by
  obtain ⟨b, off, e, h1⟩ := h i hi
  exact ⟨b, off, e, h1 0 (by omega), h1 1 (by omega)⟩
/-- A name, wherever it lies, its parts too. -/
def DRow (w : World) (a : Option Addr) (L : List PX) : Prop := GRow 1 xV w a L ∧ ∀ r ∈ L, PRow w r.1 r.2.2 ∧ r.2.2.length ≤ r.2.1 ∧ r.2.1 ≤ maxLen
theorem DRow.below {w w' : World} {a : Option Addr} {L : List PX} (h : DRow w a L) (hb : Below w.heap.size w w') : DRow w' a L := ⟨h.1.below xV_len hb, fun r hr => ⟨(h.2 r hr).1.below pV_len hb, (h.2 r hr).2⟩⟩
theorem drow_at {w : World} {a : Option Addr} {L : List PX} (h : DRow w a L) (i : Nat) (hi : i < L.length) : ∃ b off, a = some ⟨b, off, none⟩ ∧ w.cell? ⟨b, off + i, none⟩ = some (.slice L[i].1 L[i].2.2.length L[i].2.1) := by
  obtain ⟨b, off, e, h1⟩ := h.1 i hi
  have := h1 0 (by omega)
  rw [Nat.mul_one] at this
  exact ⟨b, off, e, this⟩
/-- What a name says. -/
def sd (L : List PX) : List (List PR) := L.map fun r => r.2.2
theorem sd_len (L : List PX) : (sd L).length = L.length := List.length_map ..
end Du
end Go.Proofs.YtkknenmpdimdbaaDoor
