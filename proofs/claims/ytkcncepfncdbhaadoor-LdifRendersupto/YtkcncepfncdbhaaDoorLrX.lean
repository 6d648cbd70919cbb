import Derived.Test.YtkcncepfncdbhaaDoorSafe
import Derived.Test.YtkcncepfncdbhaaDoorBaseMath
import Derived.Test.YtkcncepfncdbhaaDoorAtPlcM
import Derived.Test.YtkcncepfncdbhaaDoorBytes
import Derived.Deep.WholeRow
import Derived.Deep.RegionHeld3
import Derived.Deep.RegionHeldLaw
import Derived.Deep.AppendLies
import Derived.Deep.DeepCutAuto
import Derived.Lib.OthersKept
import Derived.BigQuiet
import Derived.Laws.StructEq
import Derived.KernelRfl
namespace Go.Proofs.YtkcncepfncdbhaaDoor
namespace Lr
open TextMath (b64 fold)
set_option linter.unusedVariables false

abbrev PR := List UInt8 × List UInt8
abbrev RC := List UInt8 × List PR
def dnB : List UInt8 := [100, 110]
def chB : List UInt8 := [99, 104, 97, 110, 103, 101, 116, 121, 112, 101]
def coB : List UInt8 := [99, 111, 110, 116, 114, 111, 108]
def verB : List UInt8 := [118, 101, 114, 115, 105, 111, 110, 58, 32, 49, 10]
/-- What stands behind a description's colon. -/
def beh (v : List UInt8) : List UInt8 := if v = [] then [] else if plain v then 32 :: v else 58 :: 32 :: b64 v
def lin (d v : List UInt8) : List UInt8 := d ++ [58] ++ beh v ++ [10]
def rec1 (r : RC) : List UInt8 := lin dnB r.1 ++ r.2.flatMap fun p => lin p.1 p.2
def ren (L : List RC) : List UInt8 := verB ++ L.flatMap fun r => 10 :: rec1 r

/-- Of a description: may it stand there; does it tell a change. -/
def okD (d : List UInt8) : Bool := dacc (drun 0 (fold d)) && !(fold d == dnB)
def chg (d : List UInt8) : Bool := (fold d == chB) || (fold d == coB)
theorem chg_ok (d : List UInt8) (h : chg d = true) : okD d = true := by
  unfold chg at h
  unfold okD
  rw [Bool.or_eq_true, beq_iff_eq, beq_iff_eq] at h
  rcases h with h | h
  · rw [h]; decide
  · rw [h]; decide
/-- The fault of a record's pair, of its pairs, of a record: errors by number. -/
def pf (first : Bool) (d : List UInt8) : Nat := if first && chg d then 78 else if okD d then 0 else 75
def pfs : Bool → List PR → Nat
  | _, [] => 0
  | b, p :: t => if pf b p.1 = 0 then pfs false t else pf b p.1
def rf (r : RC) : Nat := if r.2 = [] then 79 else pfs true r.2
def ffs : Nat → List RC → Option (Nat × Nat)
  | _, [] => none
  | i, r :: t => if rf r = 0 then ffs (i + 1) t else some (rf r, i)
theorem pfs_all : ∀ (l : List PR) (b : Bool), (∀ j (h : j < l.length), pf (b && decide (j = 0)) l[j].1 = 0) → pfs b l = 0
  | [], _, _ => rfl
  | p :: t, b, h => by
    have h0 := h 0 (by simp)
    simp only [List.getElem_cons_zero, decide_true, Bool.and_true] at h0
    unfold pfs
    rw [if_pos h0]
    exact pfs_all t false (fun j hj => by
      have := h (j + 1) (by simp; omega)
      simpa using this)
theorem pfs_at : ∀ (l : List PR) (b : Bool) (i : Nat) (hi : i < l.length), (∀ j (h : j < l.length), j < i → pf (b && decide (j = 0)) l[j].1 = 0) → pf (b && decide (i = 0)) l[i].1 ≠ 0 → pfs b l = pf (b && decide (i = 0)) l[i].1
  | [], _, i, hi, _, _ => by simp at hi
  | p :: t, b, 0, _, _, hn => by
    simp only [List.getElem_cons_zero, decide_true, Bool.and_true] at hn ⊢
    unfold pfs
    rw [if_neg hn]
  | p :: t, b, i + 1, hi, h, hn => by
    have h0 := h 0 (by simp) (by omega)
    simp only [List.getElem_cons_zero, decide_true, Bool.and_true] at h0
    have e : decide (i + 1 = 0) = false := by simp
    rw [e, Bool.and_false] at hn ⊢
    simp only [List.getElem_cons_succ] at hn ⊢
    unfold pfs
    rw [if_pos h0]
    have hi' : i < t.length := by simpa using hi
    have := pfs_at t false i hi' (fun j hj hlt => by
      have := h (j + 1) (by simp; omega) (by omega)
      simpa using this) (by simpa using hn)
    simpa using this
theorem ffs_all : ∀ (l : List RC) (k : Nat), (∀ j (h : j < l.length), rf l[j] = 0) → ffs k l = none
  | [], _, _ => rfl
  | r :: t, k, h => by
    unfold ffs
    rw [if_pos (by have := h 0 (by simp); simpa using this)]
    exact ffs_all t _ (fun j hj => by have := h (j + 1) (by simp; omega); simpa using this)
theorem ffs_at : ∀ (l : List RC) (k i : Nat) (hi : i < l.length), (∀ j (h : j < l.length), j < i → rf l[j] = 0) → rf l[i] ≠ 0 → ffs k l = some (rf l[i], k + i)
  | [], _, i, hi, _, _ => by simp at hi
  | r :: t, k, 0, _, _, hn => by
    unfold ffs
    rw [if_neg (by simpa using hn)]
    rfl
  | r :: t, k, i + 1, hi, h, hn => by
    unfold ffs
    rw [if_pos (by have := h 0 (by simp) (by omega); simpa using this)]
    have hi' : i < t.length := by simpa using hi
    have := ffs_at t (k + 1) i hi' (fun j hj hlt => by have := h (j + 1) (by simp; omega) (by omega); simpa using this) (by simpa using hn)
    rw [this]
    simp
    omega
/-- Sizes. -/
def wp (p : PR) : Nat := p.1.length + p.2.length + 3
def wRc (r : RC) : Nat := r.1.length + 4 + (r.2.map wp).sum
def wt (L : List RC) : Nat := (L.map wRc).sum
theorem beh_len (v : List UInt8) : (beh v).length ≤ 2 * v.length + 5 := by
  unfold beh
  split
  · simp
  · split
    · simp; omega
    · simp only [List.length_cons, TextMath.b64_len]; omega
theorem lin_len (d v : List UInt8) : (lin d v).length ≤ d.length + 2 * v.length + 7 := by
  unfold lin
  have := beh_len v
  simp only [List.length_append, List.length_cons, List.length_nil]
  omega
theorem lins_len (l : List PR) : (l.flatMap fun p => lin p.1 p.2).length ≤ 3 * (l.map wp).sum := by
  induction l with
  | nil => simp
  | cons p t ih =>
    have := lin_len p.1 p.2
    simp only [List.flatMap_cons, List.length_append, List.map_cons, List.sum_cons, wp] at ih ⊢
    omega
theorem rec_len (r : RC) : (rec1 r).length + 1 ≤ 3 * wRc r := by
  unfold rec1 wRc
  have h1 := lin_len dnB r.1
  have h2 := lins_len r.2
  have h3 : dnB.length = 2 := rfl
  rw [List.length_append]
  omega
theorem recs_len (L : List RC) : (L.flatMap fun r => 10 :: rec1 r).length ≤ 3 * wt L := by
  unfold wt
  induction L with
  | nil => simp
  | cons r t ih =>
    have := rec_len r
    simp only [List.flatMap_cons, List.length_append, List.length_cons, List.map_cons, List.sum_cons] at ih ⊢
    omega
theorem ren_len (L : List RC) : (ren L).length ≤ 3 * wt L + 11 := by
  unfold ren
  have := recs_len L
  have h3 : verB.length = 11 := rfl
  rw [List.length_append]
  omega
theorem wt_take (L : List RC) (i : Nat) : wt (L.take i) ≤ wt L := by
  unfold wt
  have e : (L.map wRc).sum = ((L.take i).map wRc).sum + ((L.drop i).map wRc).sum := by rw [← List.sum_append, ← List.map_append, List.take_append_drop]
  omega
theorem wr_le (L : List RC) (r : RC) (h : r ∈ L) : wRc r ≤ wt L := by
  unfold wt
  induction L with
  | nil => simp at h
  | cons y t ih =>
    simp only [List.map_cons, List.sum_cons]
    rcases List.mem_cons.1 h with e | e
    · rw [e]; omega
    · have := ih e; omega
theorem wp_le (r : RC) (p : PR) (h : p ∈ r.2) : wp p ≤ wRc r := by
  unfold wRc
  have : wp p ≤ (r.2.map wp).sum := by
    generalize r.2 = l at *
    induction l with
    | nil => simp at h
    | cons y t ih =>
      simp only [List.map_cons, List.sum_cons]
      rcases List.mem_cons.1 h with e | e
      · rw [e]; omega
      · have := ih e; omega
  omega
theorem wp_len (r : RC) : r.2.length ≤ wRc r := by
  unfold wRc
  have : r.2.length ≤ (r.2.map wp).sum := by
    generalize r.2 = l
    induction l with
    | nil => simp
    | cons y t ih => simp only [List.map_cons, List.sum_cons, List.length_cons, wp] at ih ⊢; omega
  omega
theorem wt_len (L : List RC) : L.length ≤ wt L := by
  unfold wt
  induction L with
  | nil => simp
  | cons y t ih => simp only [List.map_cons, List.sum_cons, List.length_cons, wRc] at ih ⊢; omega
theorem ren_snoc (L : List RC) (i : Nat) (h : i < L.length) : ren (L.take (i + 1)) = ren (L.take i) ++ (10 :: rec1 L[i]) := by
  unfold ren
  rw [List.take_succ_eq_append_getElem h, List.flatMap_append]
  simp
theorem lins_snoc (l : List PR) (i : Nat) (h : i < l.length) : ((l.take (i + 1)).flatMap fun p => lin p.1 p.2) = ((l.take i).flatMap fun p => lin p.1 p.2) ++ lin l[i].1 l[i].2 := by
  rw [List.take_succ_eq_append_getElem h, List.flatMap_append]
  simp
end Lr
end Go.Proofs.YtkcncepfncdbhaaDoor

namespace Go.Proofs.YtkcncepfncdbhaaDoor
namespace Lr
open Go.RowKit
set_option linter.unusedVariables false
set_option maxRecDepth 100000

theorem drewN_below (W : World) (B q : Nat) : Below B W (W.drewN q) := ⟨rfl, rfl, rfl, Nat.le_refl _, fun _ _ => rfl⟩
theorem add_o (b o j : Nat) : (⟨b, o, none⟩ : Addr).add j = ⟨b, o + j, none⟩ := by
  unfold Addr.add
  by_cases h : j = 0
  · subst h; rfl
  · simp [h]
theorem owns_same {w w' : World} {B k n : Nat} {e : TypeId} {v : Value} {xs : List Value} (h : w.ownsRow B e k v n xs) (hb : ∀ g, v.ownBlock = some g → w'.heap[g]? = w.heap[g]?) : w'.ownsRow B e k v n xs := by
  rcases h with ⟨h1, ⟨rfl, h2⟩ | ⟨g, cap, cur, rfl, h3, h4, h5⟩⟩
  · exact ⟨h1, Or.inl ⟨rfl, h2⟩⟩
  · exact ⟨h1, Or.inr ⟨g, cap, cur, rfl, h3, by rw [hb g rfl]; exact h4, h5⟩⟩
theorem owns_base {w : World} {B B' k n : Nat} {e : TypeId} {v : Value} {xs : List Value} (h : w.ownsRow B e k v n xs) (hb : B' ≤ B) : w.ownsRow B' e k v n xs := by
  rcases h with ⟨h1, ⟨rfl, h2⟩ | ⟨g, cap, cur, rfl, h3, h4, h5⟩⟩
  · exact ⟨h1, Or.inl ⟨rfl, h2⟩⟩
  · exact ⟨h1, Or.inr ⟨g, cap, cur, rfl, Nat.le_trans hb h3, h4, h5⟩⟩
theorem owns_form {w : World} {B k n : Nat} {e : TypeId} {v : Value} {xs : List Value} (h : w.ownsRow B e k v n xs) : (v = .slice none 0 0 ∧ n = 0) ∨ (∃ g cap, v = .slice (some ⟨g, 0, none⟩) n cap ∧ n ≤ cap ∧ cap ≤ maxLen ∧ B ≤ g ∧ g < w.heap.size) := by
  rcases h with ⟨h1, ⟨rfl, h2⟩ | ⟨g, cap, cur, rfl, h3, h4, h5, h6, _⟩⟩
  · exact Or.inl ⟨rfl, h2⟩
  · exact Or.inr ⟨g, cap, rfl, h5, h6, h3, (Array.getElem?_eq_some_iff.1 h4).1⟩
theorem owns_apart {w : World} {B B' k k' n n' : Nat} {e e' : TypeId} {v v' : Value} {xs xs' : List Value} (h : w.ownsRow B e k v n xs) (h' : w.ownsRow B' e' k' v' n' xs') (hne : e ≠ e') {g : Nat} (hg : v.ownBlock = some g) : v'.ownBlock ≠ some g := fun hg' => by
  rcases h with ⟨h1, ⟨rfl, h2⟩ | ⟨g1, cap, cur, rfl, h3, h4, h5, _⟩⟩
  · cases hg
  · injection hg with hg
    subst hg
    rcases h' with ⟨k1, ⟨rfl, k2⟩ | ⟨g2, cap2, cur2, rfl, k3, k4, k5, _⟩⟩
    · cases hg'
    · injection hg' with hg'
      subst hg'
      rw [h4] at k4
      injection k4 with k4
      injection k4 with _ k4 _
      exact hne k4
theorem flatV_len {α : Type} (V : α → List Value) (k : Nat) (hk : ∀ x, (V x).length = k) (l : List α) : (l.flatMap V).length = l.length * k := by
  induction l with
  | nil => simp
  | cons x l ih =>
    rw [List.flatMap_cons, List.length_append, ih, hk, List.length_cons, Nat.succ_mul]
    omega
theorem flatV_at {α : Type} (V : α → List Value) (k : Nat) (hk : ∀ x, (V x).length = k) (l : List α) (i : Nat) (hi : i < l.length) (j : Nat) (hj : j < k) : (l.flatMap V)[i * k + j]? = (V l[i])[j]? := by
  induction l generalizing i with
  | nil => simp at hi
  | cons x l ih =>
    rw [List.flatMap_cons]
    cases i with
    | zero =>
      rw [List.getElem?_append_left (by rw [hk]; omega)]
      simp
    | succ i =>
      have e : (i + 1) * k + j = (V x).length + (i * k + j) := by rw [hk, Nat.succ_mul]; omega
      rw [e, List.getElem?_append_right (by omega), Nat.add_sub_cancel_left, ih i (by simpa using hi)]
      rfl
/-- A row of structs, wherever it lies. -/
def GRow {α : Type} (k : Nat) (V : α → List Value) (w : World) (a : Option Addr) (l : List α) : Prop := ∀ i (h : i < l.length), ∃ b off, a = some ⟨b, off, none⟩ ∧ ∀ j, j < k → w.cell? ⟨b, off + i * k + j, none⟩ = (V l[i])[j]?
theorem GRow.below {α : Type} {k : Nat} {V : α → List Value} (hV : ∀ x, (V x).length = k) {w w' : World} {a : Option Addr} {l : List α} (h : GRow k V w a l) (hb : Below w.heap.size w w') : GRow k V w' a l := fun i hi => by
  obtain ⟨b, off, e, h1⟩ := h i hi
  refine ⟨b, off, e, fun j hj => ?_⟩
  have h2 := h1 j hj
  rw [hb.cell, h2]
  rw [List.getElem?_eq_getElem (by rw [hV]; exact hj)] at h2
  exact World.block_lt_of_cell? w _ h2
theorem GRow.nil {α : Type} (k : Nat) (V : α → List Value) (w : World) (a : Option Addr) : GRow k V w a [] := fun i hi => by simp at hi
theorem GRow.front {α : Type} {k : Nat} {V : α → List Value} {w : World} {a : Option Addr} {l m : List α} (h : GRow k V w a (l ++ m)) : GRow k V w a l := fun i hi => by
  have h1 := h i (by rw [List.length_append]; omega)
  rw [List.getElem_append_left hi] at h1
  exact h1
/-- One struct that has just been laid. -/
theorem GRow.one {α : Type} {k : Nat} (V : α → List Value) (w : World) (t : TypeId) (p : α) : GRow k V (w.alloc (.cells (V p).toArray t)) (some ⟨w.heap.size, 0, none⟩) [p] := fun i hi => by
  have hi0 : i = 0 := by simp at hi; omega
  subst hi0
  refine ⟨_, _, rfl, fun j hj => ?_⟩
  have h1 : (w.alloc (.cells (V p).toArray t)).heap[w.heap.size]? = some (.cells (V p).toArray t (0, 0)) := heap_alloc_new _ _
  rw [cell_of_row _ _ _ _ _ _ h1]
  simp
/-- A row of structs of the call's own. -/
def GOwn {α : Type} (t : TypeId) (k : Nat) (V : α → List Value) (W : World) (B : Nat) (v : Value) (l : List α) : Prop := W.ownsRow B t k v l.length (l.flatMap V)
theorem GOwn.nil {α : Type} (t : TypeId) (k : Nat) (V : α → List Value) (W : World) (B : Nat) : GOwn t k V W B (.slice none 0 0) [] := ⟨by simp, Or.inl ⟨rfl, rfl⟩⟩
theorem GOwn.row {α : Type} {t : TypeId} {k : Nat} {V : α → List Value} (hV : ∀ x, (V x).length = k) {w : World} {B : Nat} {v : Value} {L : List α} (h : GOwn t k V w B v L) : ∃ a c, v = .slice a L.length c ∧ L.length ≤ c ∧ c ≤ maxLen ∧ GRow k V w a L := by
  rcases owns_form h with ⟨rfl, h0⟩ | ⟨g, cap, rfl, hc, hm, _⟩
  · exact ⟨none, 0, by rw [h0], by omega, by unfold maxLen; omega, fun i hi => by omega⟩
  · refine ⟨_, cap, rfl, hc, hm, fun i hi => ⟨g, 0, rfl, fun j hj => ?_⟩⟩
    rw [Nat.zero_add]
    have hlt : i * k + j < L.length * k := by
      have : (i + 1) * k ≤ L.length * k := Nat.mul_le_mul_right k hi
      rw [Nat.succ_mul] at this
      omega
    have hc := World.ownsRow.cellAt (show w.ownsRow B t k _ L.length (L.flatMap V) from h) (i * k + j) hlt
    rw [hc]
    exact flatV_at V k hV L i hi j hj
theorem GOwn.below {α : Type} {t : TypeId} {k : Nat} {V : α → List Value} {w w' : World} {B : Nat} {v : Value} {L : List α} (h : GOwn t k V w B v L) (hb : Below w.heap.size w w') : GOwn t k V w' B v L := owns_same h (fun g hg => hb.block g (World.ownsRow.lt h g hg).2)
/-- What is known of a type of structs. -/
def Kd {α : Type} (t ts : TypeId) (k nb : Nat) (V : α → List Value) : Prop :=
  Tryd.prog.underlying ts = some (.slice t) ∧ (∃ i z, Tryd.prog.info? t = some i ∧ i.zero = some z ∧ i.size = k ∧ i.bytes = nb ∧ z.cells.size = k) ∧ 0 < k ∧ 0 < nb ∧ (∀ x, (V x).length = k) ∧ (∀ x, ∀ u ∈ V x, u.oneCell' = true)
/-- A row appended to a row of the call's own. -/
theorem append_gen {α : Type} {t ts : TypeId} {k nb : Nat} {V : α → List Value} (KD : Kd t ts k nb V) (w : World) (B : Nat) (v : Value) (l m : List α) (a : Option Addr) (n c : Nat) (hown : GOwn t k V w B v l) (hk : GRow k V w a m) (hn : n = m.length) (hB : B ≤ w.heap.size) (hsz : (l.length + m.length) * nb ≤ 140737488355328) :
    ∃ v' w', (Builtin.append_ #[ts, ts] ts #[v, .slice a n c]).run Tryd.prog w = .ok v' w' ∧ GOwn t k V w' B v' (l ++ m) ∧ w.grownBy w' v.ownBlock ∧ Below B w w' := by
  subst hn
  obtain ⟨hund, ⟨i0, z0, hi, hz0, hz1, hz2, hz3⟩, hk0, hnb, hV, h1V⟩ := KD
  by_cases h0 : m.length = 0
  · have hm0 := List.eq_nil_of_length_eq_zero h0
    subst hm0
    refine ⟨v, w, ?_, by rw [List.append_nil]; exact hown, ⟨rfl, rfl, rfl, Nat.le_refl _, fun _ _ _ => rfl⟩, Below.refl _ _⟩
    cases a with
    | none =>
      rcases owns_form hown with ⟨rfl, h2⟩ | ⟨g, cap, rfl, hc, _⟩
      · simp [Builtin.append_, run_underlying hund, sizeOf, typeInfo, hi, Builtin.lenOf, Builtin.firstCells]
      · simp [Builtin.append_, run_underlying hund, sizeOf, typeInfo, hi, Builtin.lenOf, Builtin.firstCells, hc, storeCells]
    | some d =>
      rcases owns_form hown with ⟨rfl, h2⟩ | ⟨g, cap, rfl, hc, _⟩
      · simp [Builtin.append_, run_underlying hund, sizeOf, typeInfo, hi, Builtin.lenOf, Builtin.firstCells, loadCells, loadCellsFrom]
      · simp [Builtin.append_, run_underlying hund, sizeOf, typeInfo, hi, Builtin.lenOf, Builtin.firstCells, loadCells, loadCellsFrom, hc, storeCells]
  · obtain ⟨b, off, rfl, _⟩ := hk 0 (by omega)
    have hnews : ∀ j u, (m.flatMap V)[j]? = some u → w.cell? ((⟨b, off, none⟩ : Addr).add j) = some u := by
      intro j u hj
      have hjn : j < m.length * k := by
        rcases Nat.lt_or_ge j (m.length * k) with h' | h'
        · exact h'
        · rw [List.getElem?_eq_none (by rw [flatV_len V k hV]; exact h')] at hj; cases hj
      have hq : j / k < m.length := Nat.div_lt_of_lt_mul (by rw [Nat.mul_comm]; exact hjn)
      have hr : j % k < k := Nat.mod_lt _ hk0
      have ej : j / k * k + j % k = j := by rw [Nat.mul_comm]; exact Nat.div_add_mod j k
      obtain ⟨b', off', e, hc⟩ := hk (j / k) hq
      injection e with e
      injection e with e1 e2
      subst e1 e2
      have h1 := hc (j % k) hr
      have h2 := flatV_at V k hV m (j / k) hq (j % k) hr
      rw [ej, hj] at h2
      rw [Nat.add_assoc, ej] at h1
      rw [add_o, h1, ← h2]
    have hle : l.length + m.length ≤ 140737488355328 := Nat.le_trans (Nat.le_mul_of_pos_right _ hnb) hsz
    obtain ⟨g, cap, w', hr, h2, h3, _, _⟩ := run_append_lies (P := Tryd.prog) w ts ts B t i0 z0 k nb hund hi hz0 hz1 hz2 hz3 hk0 v l.length (l.flatMap V) hown ⟨b, off, none⟩ m.length c (m.flatMap V) (flatV_len V k hV m) hnews (fun u hu => by obtain ⟨y, _, hy⟩ := List.mem_flatMap.1 hu; exact h1V y u hy) (by omega) (Nat.le_trans hle (by unfold maxLen; decide)) hsz hB w.heap.size rfl
    refine ⟨_, w', hr, ?_, h3, (Below.refl _ _).grown h3 hB (fun j hj => (World.ownsRow.lt (show w.ownsRow B t k v l.length (l.flatMap V) from hown) _ hj).1)⟩
    unfold GOwn
    rw [List.flatMap_append, List.length_append]
    exact h2
end Lr
end Go.Proofs.YtkcncepfncdbhaaDoor
