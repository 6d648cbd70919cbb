import Derived.Test.YtoknbicfbeocbaaDoorBtNd
import Derived.Test.YtoknbicfbeocbaaDoorBytes
import Derived.Deep.WholeRow
import Derived.Deep.RegionHeld3
import Derived.Deep.RegionHeldLaw
import Derived.Deep.AppendLies
import Derived.Deep.DeepCutAuto
import Derived.Lib.OthersKept
import Derived.BigQuiet
import Derived.Laws.StructEq
import Derived.KernelRfl
import Derived.Test.YtoknbicfbeocbaaDoorVX2
import Derived.Lib.AppendZeros
namespace Go.Proofs.YtoknbicfbeocbaaDoor
namespace Vr
open Go.RowKit
set_option linter.unusedVariables false
set_option maxRecDepth 100000

theorem drewN_below (W : World) (B q : Nat) : Below B W (W.drewN q) := ⟨rfl, rfl, rfl, Nat.le_refl _, fun _ _ => rfl⟩
theorem add_o (b o j : Nat) : (⟨b, o, none⟩ : Addr).add j = ⟨b, o + j, none⟩ := by
  unfold Addr.add
  by_cases h : j = 0
  · subst h; rfl
  · simp [h]
theorem owns_same {w w' : World} {B k n : Nat} {e : TypeId} {v : Value} {xs : List Value} (h : w.ownsRow B e k v n xs) (hb : ∀ g, v.ownBlock = some g → w'.heap[g]? = w.heap[g]?) : w'.ownsRow B e k v n xs := by
  rcases h with ⟨h1, ⟨rfl, h2⟩ | ⟨g, cap, cur, rfl, h3, h4, h5⟩⟩
  · exact ⟨h1, Or.inl ⟨rfl, h2⟩⟩
  · exact ⟨h1, Or.inr ⟨g, cap, cur, rfl, h3, by rw [hb g rfl]; exact h4, h5⟩⟩
theorem owns_base {w : World} {B B' k n : Nat} {e : TypeId} {v : Value} {xs : List Value} (h : w.ownsRow B e k v n xs) (hb : B' ≤ B) : w.ownsRow B' e k v n xs := by
  rcases h with ⟨h1, ⟨rfl, h2⟩ | ⟨g, cap, cur, rfl, h3, h4, h5⟩⟩
  · exact ⟨h1, Or.inl ⟨rfl, h2⟩⟩
  · exact ⟨h1, Or.inr ⟨g, cap, cur, rfl, Nat.le_trans hb h3, h4, h5⟩⟩
theorem owns_form {w : World} {B k n : Nat} {e : TypeId} {v : Value} {xs : List Value} (h : w.ownsRow B e k v n xs) : (v = .slice none 0 0 ∧ n = 0) ∨ (∃ g cap, v = .slice (some ⟨g, 0, none⟩) n cap ∧ n ≤ cap ∧ cap ≤ maxLen ∧ B ≤ g ∧ g < w.heap.size) := by
  rcases h with ⟨h1, ⟨rfl, h2⟩ | ⟨g, cap, cur, rfl, h3, h4, h5, h6, _⟩⟩
  · exact Or.inl ⟨rfl, h2⟩
  · exact Or.inr ⟨g, cap, rfl, h5, h6, h3, (Array.getElem?_eq_some_iff.1 h4).1⟩
theorem owns_apart {w : World} {B B' k k' n n' : Nat} {e e' : TypeId} {v v' : Value} {xs xs' : List Value} (h : w.ownsRow B e k v n xs) (h' : w.ownsRow B' e' k' v' n' xs') (hne : e ≠ e') {g : Nat} (hg : v.ownBlock = some g) : v'.ownBlock ≠ some g := fun hg' => by
  rcases h with ⟨h1, ⟨rfl, h2⟩ | ⟨g1, cap, cur, rfl, h3, h4, h5, _⟩⟩
  · cases hg
  · injection hg with hg
    subst hg
    rcases h' with ⟨k1, ⟨rfl, k2⟩ | ⟨g2, cap2, cur2, rfl, k3, k4, k5, _⟩⟩
    · cases hg'
    · injection hg' with hg'
      subst hg'
      rw [h4] at k4
      injection k4 with k4
      injection k4 with _ k4 _
      exact hne k4
theorem flatV_len {α : Type} (V : α → List Value) (k : Nat) (hk : ∀ x, (V x).length = k) (l : List α) : (l.flatMap V).length = l.length * k := by
  induction l with
  | nil => simp
  | cons x l ih =>
    rw [List.flatMap_cons, List.length_append, ih, hk, List.length_cons, Nat.succ_mul]
    omega
theorem flatV_at {α : Type} (V : α → List Value) (k : Nat) (hk : ∀ x, (V x).length = k) (l : List α) (i : Nat) (hi : i < l.length) (j : Nat) (hj : j < k) : (l.flatMap V)[i * k + j]? = (V l[i])[j]? := by
  induction l generalizing i with
  | nil => simp at hi
  | cons x l ih =>
    rw [List.flatMap_cons]
    cases i with
    | zero =>
      rw [List.getElem?_append_left (by rw [hk]; omega)]
      simp
    | succ i =>
      have e : (i + 1) * k + j = (V x).length + (i * k + j) := by rw [hk, Nat.succ_mul]; omega
      rw [e, List.getElem?_append_right (by omega), Nat.add_sub_cancel_left, ih i (by simpa using hi)]
      rfl
/-- A row of structs, wherever it lies. -/
def GRow {α : Type} (k : Nat) (V : α → List Value) (w : World) (a : Option Addr) (l : List α) : Prop := ∀ i (h : i < l.length), ∃ b off, a = some ⟨b, off, none⟩ ∧ ∀ j, j < k → w.cell? ⟨b, off + i * k + j, none⟩ = (V l[i])[j]?
theorem GRow.below {α : Type} {k : Nat} {V : α → List Value} (hV : ∀ x, (V x).length = k) {w w' : World} {a : Option Addr} {l : List α} (h : GRow k V w a l) (hb : Below w.heap.size w w') : GRow k V w' a l := fun i hi => by
  obtain ⟨b, off, e, h1⟩ := h i hi
  refine ⟨b, off, e, fun j hj => ?_⟩
  have h2 := h1 j hj
  rw [hb.cell, h2]
  rw [List.getElem?_eq_getElem (by rw [hV]; exact hj)] at h2
  exact World.block_lt_of_cell? w _ h2
theorem GRow.nil {α : Type} (k : Nat) (V : α → List Value) (w : World) (a : Option Addr) : GRow k V w a [] := fun i hi => by simp at hi
theorem GRow.front {α : Type} {k : Nat} {V : α → List Value} {w : World} {a : Option Addr} {l m : List α} (h : GRow k V w a (l ++ m)) : GRow k V w a l := fun i hi => by
  have h1 := h i (by rw [List.length_append]; omega)
  rw [List.getElem_append_left hi] at h1
  exact h1
/-- One struct that has just been laid. -/
theorem GRow.one {α : Type} {k : Nat} (V : α → List Value) (w : World) (t : TypeId) (p : α) : GRow k V (w.alloc (.cells (V p).toArray t)) (some ⟨w.heap.size, 0, none⟩) [p] := fun i hi => by
  have hi0 : i = 0 := by simp at hi; omega
  subst hi0
  refine ⟨_, _, rfl, fun j hj => ?_⟩
  have h1 : (w.alloc (.cells (V p).toArray t)).heap[w.heap.size]? = some (.cells (V p).toArray t (0, 0)) := heap_alloc_new _ _
  rw [cell_of_row _ _ _ _ _ _ h1]
  simp
/-- A row of structs of the call's own. -/
def GOwn {α : Type} (t : TypeId) (k : Nat) (V : α → List Value) (W : World) (B : Nat) (v : Value) (l : List α) : Prop := W.ownsRow B t k v l.length (l.flatMap V)
theorem GOwn.nil {α : Type} (t : TypeId) (k : Nat) (V : α → List Value) (W : World) (B : Nat) : GOwn t k V W B (.slice none 0 0) [] := ⟨by simp, Or.inl ⟨rfl, rfl⟩⟩
theorem GOwn.row {α : Type} {t : TypeId} {k : Nat} {V : α → List Value} (hV : ∀ x, (V x).length = k) {w : World} {B : Nat} {v : Value} {L : List α} (h : GOwn t k V w B v L) : ∃ a c, v = .slice a L.length c ∧ L.length ≤ c ∧ c ≤ maxLen ∧ GRow k V w a L := by
  rcases owns_form h with ⟨rfl, h0⟩ | ⟨g, cap, rfl, hc, hm, _⟩
  · exact ⟨none, 0, by rw [h0], by omega, by unfold maxLen; omega, fun i hi => by omega⟩
  · refine ⟨_, cap, rfl, hc, hm, fun i hi => ⟨g, 0, rfl, fun j hj => ?_⟩⟩
    rw [Nat.zero_add]
    have hlt : i * k + j < L.length * k := by
      have : (i + 1) * k ≤ L.length * k := Nat.mul_le_mul_right k hi
      rw [Nat.succ_mul] at this
      omega
    have hc := World.ownsRow.cellAt (show w.ownsRow B t k _ L.length (L.flatMap V) from h) (i * k + j) hlt
    rw [hc]
    exact flatV_at V k hV L i hi j hj
theorem GOwn.below {α : Type} {t : TypeId} {k : Nat} {V : α → List Value} {w w' : World} {B : Nat} {v : Value} {L : List α} (h : GOwn t k V w B v L) (hb : Below w.heap.size w w') : GOwn t k V w' B v L := owns_same h (fun g hg => hb.block g (World.ownsRow.lt h g hg).2)
/-- What is known of a type of structs. -/
def Kd {α : Type} (t ts : TypeId) (k nb : Nat) (V : α → List Value) : Prop :=
  Tryd.prog.underlying ts = some (.slice t) ∧ (∃ i z, Tryd.prog.info? t = some i ∧ i.zero = some z ∧ i.size = k ∧ i.bytes = nb ∧ z.cells.size = k) ∧ 0 < k ∧ 0 < nb ∧ (∀ x, (V x).length = k) ∧ (∀ x, ∀ u ∈ V x, u.oneCell' = true)
/-- A row appended to a row of the call's own. -/
theorem append_gen {α : Type} {t ts : TypeId} {k nb : Nat} {V : α → List Value} (KD : Kd t ts k nb V) (w : World) (B : Nat) (v : Value) (l m : List α) (a : Option Addr) (n c : Nat) (hown : GOwn t k V w B v l) (hk : GRow k V w a m) (hn : n = m.length) (hB : B ≤ w.heap.size) (hsz : (l.length + m.length) * nb ≤ 140737488355328) :
    ∃ v' w', (Builtin.append_ #[ts, ts] ts #[v, .slice a n c]).run Tryd.prog w = .ok v' w' ∧ GOwn t k V w' B v' (l ++ m) ∧ w.grownBy w' v.ownBlock ∧ Below B w w' := by
  subst hn
  obtain ⟨hund, ⟨i0, z0, hi, hz0, hz1, hz2, hz3⟩, hk0, hnb, hV, h1V⟩ := KD
  by_cases h0 : m.length = 0
  · have hm0 := List.eq_nil_of_length_eq_zero h0
    subst hm0
    refine ⟨v, w, ?_, by rw [List.append_nil]; exact hown, ⟨rfl, rfl, rfl, Nat.le_refl _, fun _ _ _ => rfl⟩, Below.refl _ _⟩
    cases a with
    | none =>
      rcases owns_form hown with ⟨rfl, h2⟩ | ⟨g, cap, rfl, hc, _⟩
      · simp [Builtin.append_, run_underlying hund, sizeOf, typeInfo, hi, Builtin.lenOf, Builtin.firstCells]
      · simp [Builtin.append_, run_underlying hund, sizeOf, typeInfo, hi, Builtin.lenOf, Builtin.firstCells, hc, storeCells]
    | some d =>
      rcases owns_form hown with ⟨rfl, h2⟩ | ⟨g, cap, rfl, hc, _⟩
      · simp [Builtin.append_, run_underlying hund, sizeOf, typeInfo, hi, Builtin.lenOf, Builtin.firstCells, loadCells, loadCellsFrom]
      · simp [Builtin.append_, run_underlying hund, sizeOf, typeInfo, hi, Builtin.lenOf, Builtin.firstCells, loadCells, loadCellsFrom, hc, storeCells]
  · obtain ⟨b, off, rfl, _⟩ := hk 0 (by omega)
    have hnews : ∀ j u, (m.flatMap V)[j]? = some u → w.cell? ((⟨b, off, none⟩ : Addr).add j) = some u := by
      intro j u hj
      have hjn : j < m.length * k := by
        rcases Nat.lt_or_ge j (m.length * k) with h' | h'
        · exact h'
        · rw [List.getElem?_eq_none (by rw [flatV_len V k hV]; exact h')] at hj; cases hj
      have hq : j / k < m.length := Nat.div_lt_of_lt_mul (by rw [Nat.mul_comm]; exact hjn)
      have hr : j % k < k := Nat.mod_lt _ hk0
      have ej : j / k * k + j % k = j := by rw [Nat.mul_comm]; exact Nat.div_add_mod j k
      obtain ⟨b', off', e, hc⟩ := hk (j / k) hq
      injection e with e
      injection e with e1 e2
      subst e1 e2
      have h1 := hc (j % k) hr
      have h2 := flatV_at V k hV m (j / k) hq (j % k) hr
      rw [ej, hj] at h2
      rw [Nat.add_assoc, ej] at h1
      rw [add_o, h1, ← h2]
    have hle : l.length + m.length ≤ 140737488355328 := Nat.le_trans (Nat.le_mul_of_pos_right _ hnb) hsz
    obtain ⟨g, cap, w', hr, h2, h3, _, _⟩ := run_append_lies (P := Tryd.prog) w ts ts B t i0 z0 k nb hund hi hz0 hz1 hz2 hz3 hk0 v l.length (l.flatMap V) hown ⟨b, off, none⟩ m.length c (m.flatMap V) (flatV_len V k hV m) hnews (fun u hu => by obtain ⟨y, _, hy⟩ := List.mem_flatMap.1 hu; exact h1V y u hy) (by omega) (Nat.le_trans hle (by unfold maxLen; decide)) hsz hB w.heap.size rfl
    refine ⟨_, w', hr, ?_, h3, (Below.refl _ _).grown h3 hB (fun j hj => (World.ownsRow.lt (show w.ownsRow B t k v l.length (l.flatMap V) from hown) _ hj).1)⟩
    unfold GOwn
    rw [List.flatMap_append, List.length_append]
    exact h2
end Vr
end Go.Proofs.YtoknbicfbeocbaaDoor

namespace Go.Proofs.YtoknbicfbeocbaaDoor
namespace Vr
open Go.RowKit
set_option linter.unusedVariables false

/-- A sort key as it lies. -/
def kyV (k : Ky) : List Value := [.string k.1, .string k.2.1, .bool k.2.2]
theorem kyV_len (k : Ky) : (kyV k).length = 3 := rfl
theorem kyV_one (k : Ky) : ∀ u ∈ kyV k, u.oneCell' = true := by
  intro u hu
  simp only [kyV, List.mem_cons, List.not_mem_nil, or_false] at hu
  rcases hu with rfl | rfl | rfl <;> rfl
theorem KDk : Kd 25 22 3 40 kyV := by
  refine ⟨Tryd.underlying22, ?_, by decide, by decide, kyV_len, kyV_one⟩
  have h : (Tryd.prog.info? 25).map (fun i => (i.zero, i.size, i.bytes)) = some (some (.agg #[.string ⟨#[]⟩, .string ⟨#[]⟩, .bool false]), 3, 40) := by kernel_rfl
  obtain ⟨i0, hi, hz0, hz1, hz2⟩ := info_parts h
  exact ⟨i0, _, hi, hz0, hz1, hz2, rfl⟩
theorem KDn : Kd 42 44 5 48 ndV := by
  refine ⟨Tryd.underlying44, ?_, by decide, by decide, fun _ => rfl, ndV_one⟩
  obtain ⟨i0, hi, hz0, hz1, hz2⟩ := info_parts info_node
  exact ⟨i0, _, hi, hz0, hz1, hz2, rfl⟩
theorem nd_of_g {w : World} {a : Option Addr} {l : List Nd} (h : GRow 5 ndV w a l) : NdRow w a l := fun i hi => by
  obtain ⟨b, off, e, h1⟩ := h i hi
  exact ⟨b, off, e, h1 0 (by omega), h1 1 (by omega), h1 2 (by omega), h1 3 (by omega), h1 4 (by omega)⟩
/-- Rows of structs that have just been laid. -/
theorem g_new {α : Type} {k : Nat} (V : α → List Value) (hV : ∀ x, (V x).length = k) (w : World) (t : TypeId) (l : List α) : GRow k V (w.alloc (.cells (l.flatMap V).toArray t)) (some ⟨w.heap.size, 0, none⟩) l := fun i hi => by
  refine ⟨_, _, rfl, fun j hj => ?_⟩
  have h1 : (w.alloc (.cells (l.flatMap V).toArray t)).heap[w.heap.size]? = some (.cells (l.flatMap V).toArray t (0, 0)) := heap_alloc_new _ _
  rw [cell_of_row _ _ _ _ _ _ h1, Nat.zero_add, List.getElem?_toArray]
  exact flatV_at V k hV l i hi j hj
set_option maxRecDepth 100000 in
/-- An append whose run is known. -/
theorem wp_app (w : World) {ops : Array Oper} {rest : List Oper} {o : Oper} {a : Act} {Q : Exit → Act → World → Prop} (hgd : o.guard = none) (s x : Operand) (ts : TypeId)
    (ho : o.op = .call { callee := .builtin .append, args := #[s, x], argTypes := #[ts, ts] }) (ht : o.type = ts) (vs vx v' : Value) (w' : World)
    (hs : a.eval s = vs) (hx : a.eval x = vx) (hr : (Builtin.append_ #[ts, ts] ts #[vs, vx]).run Tryd.prog w = .ok v' w')
    (h : wpList Tryd.prog ops Q rest (a.put o.dst v') w') : wpList Tryd.prog ops Q (o :: rest) a w :=
  Lib.wpList_append_run w hgd s x _ _ ho _ _ hs hx _ _ (by rw [ht]; exact hr) h
/-- Tree of what Write wrote, and of what it did not. -/
theorem tree_ok (X : ByteArray) (l : List Nd) (h : Wrt X l) (W : World) : Calls Tryd.prog 29 #[.string X] W fun r w' => (∃ v q1 q2, r = .returned (.tuple #[v, .int .i64 q1, .int .i64 q2]) ∧ OwnN w' W.heap.size v l) ∧ Below W.heap.size W w' := by
  obtain ⟨_, h2, ⟨xs, h3, h4⟩, _⟩ := h
  refine (tree_any X W (Nat.le_trans h2 (by decide))).mono ?_
  rintro r w' ⟨hq, hb⟩
  refine ⟨?_, hb⟩
  rcases hq with ⟨ys, v, e1, e2, e3⟩ | ⟨f, e1, _⟩
  · rw [h3] at e1
    injection e1 with e1
    subst e1
    rw [h4] at e3
    exact ⟨v, 0, 0, e2, e3⟩
  · rw [h3] at e1; cases e1
theorem tree_bad (X : ByteArray) (f : Nat × Nat) (h : treeR X = .error f) (hm : X.size ≤ 281474976710656) (W : World) : Calls Tryd.prog 29 #[.string X] W fun r w' => (∃ v q1 q2, r = .returned (.tuple #[v, .int .i64 q1, .int .i64 q2]) ∧ OwnN w' W.heap.size v []) ∧ Below W.heap.size W w' := by
  refine (tree_any X W hm).mono ?_
  rintro r w' ⟨hq, hb⟩
  refine ⟨?_, hb⟩
  rcases hq with ⟨ys, v, e1, _⟩ | ⟨g, e1, e2⟩
  · rw [h] at e1; cases e1
  · exact ⟨_, _, _, e2, ownN_nil _ _⟩
set_option maxRecDepth 100000 in
set_option maxHeartbeats 1000000 in
theorem encodePage_no (n : Int) (c : ByteArray) (w : World) (h : n < 0 ∨ 2147483647 < n) :
    Calls Tryd.prog 9 #[.int .i64 n, .string c] w fun e w' => e = .returned (.tuple #[.string ⟨#[]⟩, .int .i64 224]) ∧ Below w.heap.size w w' := by
  by_cases h0 : n < 0
  · clear h
    go_enter Tryd.func9, Tryd.ntmps9
    go_wp2_with fail
    go_ret2
    exact ⟨rfl, Below.refl _ _⟩
  · have h1 : 2147483647 < n := by omega
    clear h
    go_enter Tryd.func9, Tryd.ntmps9
    go_wp2_with fail
    go_ret2
    exact ⟨rfl, Below.refl _ _⟩
/-- The number's content. -/
def eB (n : Int) : ByteArray := S (BerMath.enc n)
set_option maxRecDepth 100000 in
set_option maxHeartbeats 2000000 in
theorem encodePage_ok (n : Int) (c : ByteArray) (w : World) (h0 : 0 ≤ n) (h1 : n ≤ 2147483647) (hc : c.size ≤ 65536) :
    Calls Tryd.prog 9 #[.int .i64 n, .string c] w fun e w' => (∃ X, e = .returned (.tuple #[.string X, .int .i64 0]) ∧ Wrt X (pN (eB n) c)) ∧ Below w.heap.size w w' := by
  have hS : Hid (∀ W, Calls Tryd.prog 12 #[.int .i64 1] W fun r w' => r = .returned (.agg #[.int .i64 1, .int .i64 0, .bool true, .int .i64 16, .string ⟨#[]⟩]) ∧ Below W.heap.size W w') := fun W => sequence_any 1 W
  have hI : Hid (∀ W, Calls Tryd.prog 23 #[.int .i64 2] W fun r w' => r = .returned (.agg #[.int .i64 2, .int .i64 0, .bool false, .int .i64 2, .string ⟨#[]⟩]) ∧ Below W.heap.size W w') := fun W => integer_any 2 W
  have hO : Hid (∀ W, Calls Tryd.prog 15 #[.int .i64 2] W fun r w' => r = .returned (.agg #[.int .i64 2, .int .i64 0, .bool false, .int .i64 4, .string ⟨#[]⟩]) ∧ Below W.heap.size W w') := fun W => octets_any 2 W
  have hP : Hid (∀ W, Calls Tryd.prog 24 #[.int .i64 n] W fun r w' => r = .returned (.string (eB n)) ∧ Below W.heap.size W w') := fun W => putInt_any n W (by omega) (by omega)
  have hF : Hid (∀ W, Calls Tryd.prog 14 #[.agg #[.int .i64 2, .int .i64 0, .bool false, .int .i64 2, .string ⟨#[]⟩], .string (eB n)] W fun r w' => r = .returned (.agg #[.int .i64 2, .int .i64 0, .bool false, .int .i64 2, .string (eB n)]) ∧ Below W.heap.size W w') := fun W => filled_any (nInt 2 ⟨#[]⟩) (eB n) W
  have hG : Hid (∀ W, Calls Tryd.prog 14 #[.agg #[.int .i64 2, .int .i64 0, .bool false, .int .i64 4, .string ⟨#[]⟩], .string c] W fun r w' => r = .returned (.agg #[.int .i64 2, .int .i64 0, .bool false, .int .i64 4, .string c]) ∧ Below W.heap.size W w') := fun W => filled_any (nOct 2 ⟨#[]⟩) c W
  have hz : wts (pN (eB n) c) ≤ 268435456 := by
    have e : wts (pN (eB n) c) = 6 + ((eB n).size + 6 + (c.size + 6)) := by simp [wts, pN]; rfl
    have e2 : (eB n).size ≤ 8 := by
      have := (BerMath.sz_pos n).2
      unfold eB
      rw [S_size, BerMath.enc_len]
      exact this
    omega
  have hW : Hid (∀ (W : World) (a : Option Addr), NdRow W a (pN (eB n) c) → Calls Tryd.prog 18 #[.slice a 3 3] W fun e w' => (∃ X, e = .returned (.tuple #[.string X, .int .i64 0]) ∧ Wrt X (pN (eB n) c)) ∧ Below W.heap.size W w') := fun W a ha => written_any [nInt 2 (eB n), nOct 2 c] a 3 W ha (chn_page _ _) hz
  have g0 : ¬ n < 0 := by omega
  have g1 : ¬ 2147483647 < n := by omega
  clear h0 h1 hc hz
  generalize eB n = en at *
  go_enter Tryd.func9, Tryd.ntmps9
  go_wp2_with fail
  refine (hS.out _).mono ?_
  rintro e w1 ⟨rfl, hb1⟩
  have HB1 : Hid (Below w.heap.size w w1) := hb1
  clear hS hb1
  go_wp2_with fail
  refine (hI.out _).mono ?_
  rintro e w2 ⟨rfl, hb2⟩
  have HB2 : Hid (Below w.heap.size w w2) := HB1.out.trans (hb2.mono HB1.out.size)
  clear hI hb2 HB1
  go_wp2_with fail
  refine (hP.out _).mono ?_
  rintro e w3 ⟨rfl, hb3⟩
  have HB3 : Hid (Below w.heap.size w w3) := HB2.out.trans (hb3.mono HB2.out.size)
  clear hP hb3 HB2
  go_wp2_with fail
  refine (hF.out _).mono ?_
  rintro e w4 ⟨rfl, hb4⟩
  have HB4 : Hid (Below w.heap.size w w4) := HB3.out.trans (hb4.mono HB3.out.size)
  clear hF hb4 HB3
  go_wp2_with fail
  refine (hO.out _).mono ?_
  rintro e w5 ⟨rfl, hb5⟩
  have HB5 : Hid (Below w.heap.size w w5) := HB4.out.trans (hb5.mono HB4.out.size)
  clear hO hb5 HB4
  go_wp2_with fail
  refine (hG.out _).mono ?_
  rintro e w6 ⟨rfl, hb6⟩
  have HB6 : Hid (Below w.heap.size w w6) := HB5.out.trans (hb6.mono HB5.out.size)
  clear hG hb6 HB5
  go_wp2_with fail
  obtain ⟨w7, hw7⟩ : ∃ W, w6.alloc (.cells #[.int .i64 1, .int .i64 0, .bool true, .int .i64 16, .string ⟨#[]⟩, .int .i64 2, .int .i64 0, .bool false, .int .i64 2, .string en, .int .i64 2, .int .i64 0, .bool false, .int .i64 4, .string c] 42) = W := ⟨_, rfl⟩
  have hr7 : NdRow w7 (some ⟨w6.heap.size, 0, none⟩) (pN en c) := by rw [← hw7]; exact nd_of_g (g_new ndV (fun _ => rfl) w6 42 (pN en c))
  have HB7 : Hid (Below w.heap.size w w7) := by rw [← hw7]; exact HB6.out.alloc HB6.out.size _
  rw [hw7]
  refine (hW.out w7 _ hr7).mono ?_
  rintro e w8 ⟨⟨X, rfl, hX⟩, hb8⟩
  have HB8 : Hid (Wrt X (pN en c) ∧ Below w.heap.size w w8) := ⟨hX, HB7.out.trans (hb8.mono HB7.out.size)⟩
  clear hW hX hb8 HB7 HB6 hr7 hw7
  go_wp2_with fail
  go_ret2
  exact ⟨⟨X, rfl, HB8.out.1⟩, HB8.out.2⟩
set_option maxRecDepth 100000 in
set_option maxHeartbeats 2000000 in
theorem decodePage_no (s : ByteArray) (w : World) (hT : ∀ W, Calls Tryd.prog 29 #[.string s] W fun r w' => (∃ v q1 q2, r = .returned (.tuple #[v, .int .i64 q1, .int .i64 q2]) ∧ OwnN w' W.heap.size v []) ∧ Below W.heap.size W w') :
    Calls Tryd.prog 10 #[.string s] w fun e w' => e = .returned (.tuple #[.int .i64 0, .string ⟨#[]⟩, .int .i64 224]) ∧ Below w.heap.size w w' := by
  have hR : Hid (Calls Tryd.prog 19 #[.string s] w fun r w' => (∃ g, r = .returned (.pointer (some ⟨g, 0, none⟩)) ∧ w.heap.size ≤ g ∧ Rdr w' g []) ∧ Below w.heap.size w w') := readerOf_any s w [] hT
  have hS : Hid (∀ W, Calls Tryd.prog 12 #[.int .i64 1] W fun r w' => r = .returned (.agg #[.int .i64 1, .int .i64 0, .bool true, .int .i64 16, .string ⟨#[]⟩]) ∧ Below W.heap.size W w') := fun W => sequence_any 1 W
  have hI : Hid (∀ W, Calls Tryd.prog 23 #[.int .i64 2] W fun r w' => r = .returned (.agg #[.int .i64 2, .int .i64 0, .bool false, .int .i64 2, .string ⟨#[]⟩]) ∧ Below W.heap.size W w') := fun W => integer_any 2 W
  have hO : Hid (∀ W, Calls Tryd.prog 15 #[.int .i64 2] W fun r w' => r = .returned (.agg #[.int .i64 2, .int .i64 0, .bool false, .int .i64 4, .string ⟨#[]⟩]) ∧ Below W.heap.size W w') := fun W => octets_any 2 W
  have hK : Hid (∀ (f : Nd) (g : Nat) W, Rdr W g [] → Calls Tryd.prog 20 #[.pointer (some ⟨g, 0, none⟩), .agg #[.int .i64 f.dep, .int .i64 f.cls, .bool f.made, .int .i64 f.tag, .string f.body]] W fun r w' => r = .returned (.tuple #[.string ⟨#[]⟩, .bool false]) ∧ Below W.heap.size W w') := fun f g W h => take_none g f W h
  have hN : Hid (∀ W, Calls Tryd.prog 25 #[.string ⟨#[]⟩] W fun r w' => r = .returned (.tuple #[.int .i64 0, .int .i64 29]) ∧ W = w') := fun W => int_any ⟨#[]⟩ W
  clear hT
  go_enter Tryd.func10, Tryd.ntmps10
  go_wp2_with fail
  refine hR.out.mono ?_
  rintro e w1 ⟨⟨g, rfl, hg, hr⟩, hb1⟩
  have H1 : Hid (Rdr w1 g [] ∧ Below w.heap.size w w1) := ⟨hr, hb1⟩
  clear hR hr hb1 hg
  go_wp2_with fail
  refine (hS.out _).mono ?_
  rintro e w2 ⟨rfl, hb⟩
  have H2 : Hid (Rdr w2 g [] ∧ Below w.heap.size w w2) := ⟨H1.out.1.below hb, H1.out.2.trans (hb.mono H1.out.2.size)⟩
  have K := hK.out (nSeq 1) g w2 H2.out.1
  clear hS hb H1
  go_wp2_with fail
  refine K.mono ?_
  rintro e w3 ⟨rfl, hb⟩
  have H3 : Hid (Rdr w3 g [] ∧ Below w.heap.size w w3) := ⟨H2.out.1.below hb, H2.out.2.trans (hb.mono H2.out.2.size)⟩
  clear K hb H2
  go_wp2_with fail
  refine (hI.out _).mono ?_
  rintro e w4 ⟨rfl, hb⟩
  have H4 : Hid (Rdr w4 g [] ∧ Below w.heap.size w w4) := ⟨H3.out.1.below hb, H3.out.2.trans (hb.mono H3.out.2.size)⟩
  have K := hK.out (nInt 2 ⟨#[]⟩) g w4 H4.out.1
  clear hI hb H3
  go_wp2_with fail
  refine K.mono ?_
  rintro e w5 ⟨rfl, hb⟩
  have H5 : Hid (Rdr w5 g [] ∧ Below w.heap.size w w5) := ⟨H4.out.1.below hb, H4.out.2.trans (hb.mono H4.out.2.size)⟩
  clear K hb H4
  go_wp2_with fail
  refine (hO.out _).mono ?_
  rintro e w6 ⟨rfl, hb⟩
  have H6 : Hid (Rdr w6 g [] ∧ Below w.heap.size w w6) := ⟨H5.out.1.below hb, H5.out.2.trans (hb.mono H5.out.2.size)⟩
  have K := hK.out (nOct 2 ⟨#[]⟩) g w6 H6.out.1
  clear hO hb H5
  go_wp2_with fail
  refine K.mono ?_
  rintro e w7 ⟨rfl, hb⟩
  have H7 : Hid (Below w.heap.size w w7) := H6.out.2.trans (hb.mono H6.out.2.size)
  clear K hb H6 hK
  go_wp2_with fail
  refine (hN.out _).mono ?_
  rintro e w8 ⟨rfl, rfl⟩
  clear hN
  go_wp2_with fail
  go_ret3
  exact ⟨rfl, H7.out⟩
end Vr
end Go.Proofs.YtoknbicfbeocbaaDoor

namespace Go.Proofs.YtoknbicfbeocbaaDoor
namespace Vr
open Go.RowKit
set_option linter.unusedVariables false

theorem int_back (n : Int) (h0 : 0 ≤ n) (h1 : n ≤ 2147483647) (W : World) : Calls Tryd.prog 25 #[.string (eB n)] W fun r w' => r = .returned (.tuple #[.int .i64 n, .int .i64 0]) ∧ W = w' := by
  have h := int_any (eB n) W
  have e : intV (eB n).data.toList = .tuple #[.int .i64 n, .int .i64 0] := by
    unfold intV eB
    rw [S_l, BerMath.okInt_enc n (by omega) (by omega), BerMath.val_enc n (by omega) (by omega)]
    rfl
  rw [e] at h
  exact h
set_option maxRecDepth 100000 in
set_option maxHeartbeats 2000000 in
theorem decodePage_ok (s : ByteArray) (n : Int) (c : ByteArray) (w : World) (h0 : 0 ≤ n) (h1 : n ≤ 2147483647) (hT : ∀ W, Calls Tryd.prog 29 #[.string s] W fun r w' => (∃ v q1 q2, r = .returned (.tuple #[v, .int .i64 q1, .int .i64 q2]) ∧ OwnN w' W.heap.size v (pN (eB n) c)) ∧ Below W.heap.size W w') :
    Calls Tryd.prog 10 #[.string s] w fun e w' => e = .returned (.tuple #[.int .i64 n, .string c, .int .i64 0]) ∧ Below w.heap.size w w' := by
  have hR : Hid (Calls Tryd.prog 19 #[.string s] w fun r w' => (∃ g, r = .returned (.pointer (some ⟨g, 0, none⟩)) ∧ w.heap.size ≤ g ∧ Rdr w' g (pN (eB n) c)) ∧ Below w.heap.size w w') := readerOf_any s w _ hT
  have hS : Hid (∀ W, Calls Tryd.prog 12 #[.int .i64 1] W fun r w' => r = .returned (.agg #[.int .i64 1, .int .i64 0, .bool true, .int .i64 16, .string ⟨#[]⟩]) ∧ Below W.heap.size W w') := fun W => sequence_any 1 W
  have hI : Hid (∀ W, Calls Tryd.prog 23 #[.int .i64 2] W fun r w' => r = .returned (.agg #[.int .i64 2, .int .i64 0, .bool false, .int .i64 2, .string ⟨#[]⟩]) ∧ Below W.heap.size W w') := fun W => integer_any 2 W
  have hO : Hid (∀ W, Calls Tryd.prog 15 #[.int .i64 2] W fun r w' => r = .returned (.agg #[.int .i64 2, .int .i64 0, .bool false, .int .i64 4, .string ⟨#[]⟩]) ∧ Below W.heap.size W w') := fun W => octets_any 2 W
  have k1 : Hid (∀ g W, Rdr W g (pN (eB n) c) → Calls Tryd.prog 20 #[.pointer (some ⟨g, 0, none⟩), .agg #[.int .i64 1, .int .i64 0, .bool true, .int .i64 16, .string ⟨#[]⟩]] W fun e w' => e = .returned (.tuple #[.string ⟨#[]⟩, .bool true]) ∧ Rdr w' g [nInt 2 (eB n), nOct 2 c] ∧ Ch (fun k => k = g) W w') := fun g W h => take_any g (nSeq 1) _ W h
  have k2 : Hid (∀ g W, Rdr W g [nInt 2 (eB n), nOct 2 c] → Calls Tryd.prog 20 #[.pointer (some ⟨g, 0, none⟩), .agg #[.int .i64 2, .int .i64 0, .bool false, .int .i64 2, .string ⟨#[]⟩]] W fun e w' => e = .returned (.tuple #[.string (eB n), .bool true]) ∧ Rdr w' g [nOct 2 c] ∧ Ch (fun k => k = g) W w') := fun g W h => take_any g (nInt 2 ⟨#[]⟩) _ W h
  have k3 : Hid (∀ g W, Rdr W g [nOct 2 c] → Calls Tryd.prog 20 #[.pointer (some ⟨g, 0, none⟩), .agg #[.int .i64 2, .int .i64 0, .bool false, .int .i64 4, .string ⟨#[]⟩]] W fun e w' => e = .returned (.tuple #[.string c, .bool true]) ∧ Rdr w' g [] ∧ Ch (fun k => k = g) W w') := fun g W h => take_any g (nOct 2 ⟨#[]⟩) _ W h
  have k4 : Hid (∀ g W, Rdr W g [] → Calls Tryd.prog 21 #[.pointer (some ⟨g, 0, none⟩)] W fun e w' => e = .returned (.bool true) ∧ w' = W) := fun g W h => atEnd_any g [] W h
  have hN : Hid (∀ W, Calls Tryd.prog 25 #[.string (eB n)] W fun r w' => r = .returned (.tuple #[.int .i64 n, .int .i64 0]) ∧ W = w') := fun W => int_back n h0 h1 W
  have g0 : ¬ n < 0 := by omega
  have g1 : ¬ 2147483647 < n := by omega
  clear hT h0 h1
  generalize eB n = en at *
  go_enter Tryd.func10, Tryd.ntmps10
  go_wp2_with fail
  refine hR.out.mono ?_
  rintro e w1 ⟨⟨g, rfl, hg, hr⟩, hb1⟩
  have H1 : Hid (Rdr w1 g (pN en c) ∧ Below w.heap.size w w1 ∧ w.heap.size ≤ g) := ⟨hr, hb1, hg⟩
  clear hR hr hb1 hg
  go_wp2_with fail
  refine (hS.out _).mono ?_
  rintro e w2 ⟨rfl, hb⟩
  have H2 : Hid (Ch (fun k => k = g) w1 w2) := Ch.of_below hb
  have K := k1.out g w2 (H1.out.1.below hb)
  clear hS hb k1
  go_wp2_with fail
  refine K.mono ?_
  rintro e w3 ⟨rfl, hr, hb⟩
  have H3 : Hid (Rdr w3 g [nInt 2 en, nOct 2 c] ∧ Ch (fun k => k = g) w1 w3) := ⟨hr, H2.out.trans hb⟩
  clear K hb H2 hr
  go_wp2_with fail
  refine (hI.out _).mono ?_
  rintro e w4 ⟨rfl, hb⟩
  have H4 : Hid (Ch (fun k => k = g) w1 w4) := H3.out.2.trans (Ch.of_below hb)
  have K := k2.out g w4 (H3.out.1.below hb)
  clear hI hb H3 k2
  go_wp2_with fail
  refine K.mono ?_
  rintro e w5 ⟨rfl, hr, hb⟩
  have H5 : Hid (Rdr w5 g [nOct 2 c] ∧ Ch (fun k => k = g) w1 w5) := ⟨hr, H4.out.trans hb⟩
  clear K hb H4 hr
  go_wp2_with fail
  refine (hO.out _).mono ?_
  rintro e w6 ⟨rfl, hb⟩
  have H6 : Hid (Ch (fun k => k = g) w1 w6) := H5.out.2.trans (Ch.of_below hb)
  have K := k3.out g w6 (H5.out.1.below hb)
  clear hO hb H5 k3
  go_wp2_with fail
  refine K.mono ?_
  rintro e w7 ⟨rfl, hr, hb⟩
  have H7 : Hid (Below w.heap.size w w7) := H1.out.2.1.trans ((H6.out.trans hb).below H1.out.2.1.size (fun k hk => by rw [hk]; exact H1.out.2.2))
  have K4 := k4.out g w7 hr
  clear K hb H6 k4 H1 hr
  go_wp2_with fail
  refine (hN.out _).mono ?_
  rintro e w8 ⟨rfl, rfl⟩
  clear hN
  go_wp2_with fail
  refine K4.mono ?_
  rintro e w9 ⟨rfl, rfl⟩
  clear K4
  go_wp2_with fail
  go_ret3
  exact ⟨rfl, H7.out⟩
set_option maxRecDepth 100000 in
set_option maxHeartbeats 2000000 in
theorem decodeKeys_no (s : ByteArray) (w : World) (hT : ∀ W, Calls Tryd.prog 29 #[.string s] W fun r w' => (∃ v q1 q2, r = .returned (.tuple #[v, .int .i64 q1, .int .i64 q2]) ∧ OwnN w' W.heap.size v []) ∧ Below W.heap.size W w') :
    Calls Tryd.prog 7 #[.string s] w fun e w' => e = .returned (.tuple #[.slice none 0 0, .int .i64 224]) ∧ Below w.heap.size w w' := by
  have hR : Hid (Calls Tryd.prog 19 #[.string s] w fun r w' => (∃ g, r = .returned (.pointer (some ⟨g, 0, none⟩)) ∧ w.heap.size ≤ g ∧ Rdr w' g []) ∧ Below w.heap.size w w') := readerOf_any s w [] hT
  have hS : Hid (∀ W, Calls Tryd.prog 12 #[.int .i64 1] W fun r w' => r = .returned (.agg #[.int .i64 1, .int .i64 0, .bool true, .int .i64 16, .string ⟨#[]⟩]) ∧ Below W.heap.size W w') := fun W => sequence_any 1 W
  have hK : Hid (∀ (g : Nat) W, Rdr W g [] → Calls Tryd.prog 20 #[.pointer (some ⟨g, 0, none⟩), .agg #[.int .i64 1, .int .i64 0, .bool true, .int .i64 16, .string ⟨#[]⟩]] W fun r w' => r = .returned (.tuple #[.string ⟨#[]⟩, .bool false]) ∧ Below W.heap.size W w') := fun g W h => take_none g (nSeq 1) W h
  clear hT
  go_enter Tryd.func7, Tryd.ntmps7
  go_wp2_with fail
  refine hR.out.mono ?_
  rintro e w1 ⟨⟨g, rfl, hg, hr⟩, hb1⟩
  have H1 : Hid (Rdr w1 g [] ∧ Below w.heap.size w w1) := ⟨hr, hb1⟩
  clear hR hr hb1 hg
  go_wp2_with fail
  refine (hS.out _).mono ?_
  rintro e w2 ⟨rfl, hb⟩
  have H2 : Hid (Below w.heap.size w w2) := H1.out.2.trans (hb.mono H1.out.2.size)
  have K := hK.out g w2 (H1.out.1.below hb)
  clear hS hb H1 hK
  go_wp2_with fail
  refine K.mono ?_
  rintro e w3 ⟨rfl, hb⟩
  have H3 : Hid (Below w.heap.size w w3) := H2.out.trans (hb.mono H2.out.size)
  clear K hb H2
  go_wp2_with fail
  go_ret2
  exact ⟨rfl, H3.out⟩
theorem nxt_keys : ∀ (l : List Ky), nxt (l.flatMap kN)
  | [], e, r, h => by simp at h
  | k :: l, e, r, h => by
    have e1 : (k :: l).flatMap kN = nSeq 2 :: (nOct 3 k.1 :: (kR k.2.1 ++ kV k.2.2) ++ l.flatMap kN) := rfl
    rw [e1] at h
    injection h with h _
    subst h
    exact ⟨rfl, rfl⟩
theorem keys_ne (k : Ky) (l : List Ky) : (k :: l).flatMap kN ≠ [] := by
  rw [List.flatMap_cons]
  unfold kN
  simp
theorem Rdr.under {w w' : World} {g : Nat} {l : List Nd} (h : Rdr w g l) (hb : Below (g + 1) w w') : Rdr w' g l := by
  obtain ⟨a, c, h1, h2, h3, h4⟩ := h
  refine ⟨a, c, h1.of (hb.block g (Nat.lt_succ_self _)), fun i hi => ?_, h3, h4⟩
  obtain ⟨b, off, e, x0, x1, x2, x3, x4⟩ := h2 i hi
  have hlt : b < g + 1 := Nat.lt_succ_of_lt (h4 _ e)
  exact ⟨b, off, e, (hb.cell hlt).trans x0, (hb.cell hlt).trans x1, (hb.cell hlt).trans x2, (hb.cell hlt).trans x3, (hb.cell hlt).trans x4⟩
def slN : Value → Nat
  | .slice _ n _ => n
  | _ => 0
/-- What stands while the keys are read. -/
def DkI (w : World) (g : Nat) (ks : List Ky) (i : Nat) (v : Value) (W : World) : Prop := Rdr W g ((ks.drop i).flatMap kN) ∧ GOwn 25 3 kyV W (g + 1) v (ks.take i) ∧ Below w.heap.size w W ∧ w.heap.size ≤ g
set_option maxRecDepth 100000 in
set_option maxHeartbeats 4000000 in
theorem decodeKeys_ok (s : ByteArray) (ks : List Ky) (w : World) (hks : ∀ k ∈ ks, utf k.1 = true ∧ utf k.2.1 = true ∧ k.1.size ≤ 65536 ∧ k.2.1.size ≤ 65536) (hn : ks.length ≤ 1000) (hT : ∀ W, Calls Tryd.prog 29 #[.string s] W fun r w' => (∃ v q1 q2, r = .returned (.tuple #[v, .int .i64 q1, .int .i64 q2]) ∧ OwnN w' W.heap.size v (kNs ks)) ∧ Below W.heap.size W w') :
    Calls Tryd.prog 7 #[.string s] w fun e w' => (∃ v, e = .returned (.tuple #[v, .int .i64 0]) ∧ GOwn 25 3 kyV w' w.heap.size v ks) ∧ Below w.heap.size w w' := by
  have hR : Hid (Calls Tryd.prog 19 #[.string s] w fun r w' => (∃ g, r = .returned (.pointer (some ⟨g, 0, none⟩)) ∧ w.heap.size ≤ g ∧ Rdr w' g (kNs ks)) ∧ Below w.heap.size w w') := readerOf_any s w _ hT
  have hS : Hid (∀ W, Calls Tryd.prog 12 #[.int .i64 1] W fun r w' => r = .returned (.agg #[.int .i64 1, .int .i64 0, .bool true, .int .i64 16, .string ⟨#[]⟩]) ∧ Below W.heap.size W w') := fun W => sequence_any 1 W
  have k1 : Hid (∀ g W, Rdr W g (kNs ks) → Calls Tryd.prog 20 #[.pointer (some ⟨g, 0, none⟩), .agg #[.int .i64 1, .int .i64 0, .bool true, .int .i64 16, .string ⟨#[]⟩]] W fun e w' => e = .returned (.tuple #[.string ⟨#[]⟩, .bool true]) ∧ Rdr w' g (ks.flatMap kN) ∧ Ch (fun k => k = g) W w') := fun g W h => take_any g (nSeq 1) _ W h
  have kE : Hid (∀ g W l, Rdr W g l → Calls Tryd.prog 21 #[.pointer (some ⟨g, 0, none⟩)] W fun e w' => e = .returned (.bool (decide (l = []))) ∧ w' = W) := fun g W l h => atEnd_any g l W h
  have kK : Hid (∀ g W (k : Ky) (l : List Ky), k ∈ ks → Rdr W g (kN k ++ l.flatMap kN) → Calls Tryd.prog 22 #[.pointer (some ⟨g, 0, none⟩)] W fun r w' => r = .returned (.tuple #[.agg #[.string k.1, .string k.2.1, .bool k.2.2], .bool true]) ∧ Rdr w' g (l.flatMap kN) ∧ Ch (fun k => k = g) W w') := fun g W k l hk h => by
    obtain ⟨a1, a2, a3, a4⟩ := hks k hk
    exact key_any g k _ W h (nxt_keys l) a1 a2 (Nat.le_trans a3 (by unfold maxLen; decide)) (Nat.le_trans a4 (by unfold maxLen; decide))
  have hn' : Hid (ks.length ≤ 1000) := hn
  clear hT hks hn
  go_enter Tryd.func7, Tryd.ntmps7
  go_wp2_with fail
  refine hR.out.mono ?_
  rintro e w1 ⟨⟨g, rfl, hg, hr⟩, hb1⟩
  have H1 : Hid (Rdr w1 g (kNs ks) ∧ Below w.heap.size w w1 ∧ w.heap.size ≤ g) := ⟨hr, hb1, hg⟩
  clear hR hr hb1 hg
  go_wp2_with fail
  refine (hS.out _).mono ?_
  rintro e w2 ⟨rfl, hb⟩
  have H2 : Hid (Ch (fun k => k = g) w1 w2) := Ch.of_below hb
  have K := k1.out g w2 (H1.out.1.below hb)
  clear hS hb k1
  go_wp2_with fail
  refine K.mono ?_
  rintro e w3 ⟨rfl, hr, hb⟩
  have H3 : Hid (DkI w g ks 0 (.slice none 0 0) w3) := ⟨hr, GOwn.nil _ _ _ _ _, H1.out.2.1.trans ((H2.out.trans hb).below H1.out.2.1.size (fun k hk => by rw [hk]; exact H1.out.2.2)), H1.out.2.2⟩
  clear K hb H2 hr H1
  go_wp2_with fail
  go_loopw [7] (fun lv wr => ∃ (i : Nat) (a : Option Addr) (c : Nat), i ≤ ks.length ∧ lv = .slice a i c ∧ Hid (DkI w g ks i (.slice a i c) wr)) (fun lv _ => ks.length - slN lv)
  case atStart => exact ⟨0, none, 0, Nat.zero_le _, rfl, H3⟩
  case round =>
    obtain ⟨i, a, c, hi, rfl, hI⟩ := hrel
    clear H3
    by_cases hlt : i < ks.length
    · have hd : ks.drop i = ks[i] :: ks.drop (i + 1) := List.drop_eq_getElem_cons hlt
      have hmem : ks[i] ∈ ks := List.getElem_mem hlt
      have htk : ks.take (i + 1) = ks.take i ++ [ks[i]] := List.take_succ_eq_append_getElem hlt
      obtain ⟨⟨d, r, v⟩, hx⟩ : ∃ k, ks[i] = k := ⟨_, rfl⟩
      rw [hx] at hd hmem htk
      have hKE := kE.out g wr _ hI.out.1
      rw [hd, decide_eq_false (keys_ne _ _)] at hKE
      have hR := hI.out.1
      rw [hd, List.flatMap_cons] at hR
      have hKK := kK.out g wr (d, r, v) (ks.drop (i + 1)) hmem hR
      have F : Hid (i < ks.length ∧ ks.take (i + 1) = ks.take i ++ [(d, r, v)] ∧ ks.length ≤ 1000) := ⟨hlt, htk, hn'.out⟩
      have E1 : Hid (Calls Tryd.prog 21 #[.pointer (some ⟨g, 0, none⟩)] wr fun e w' => e = .returned (.bool false) ∧ w' = wr) := hKE
      have E2 : Hid (Calls Tryd.prog 22 #[.pointer (some ⟨g, 0, none⟩)] wr fun q w' => q = .returned (.tuple #[.agg #[.string d, .string r, .bool v], .bool true]) ∧ Rdr w' g ((ks.drop (i + 1)).flatMap kN) ∧ Ch (fun k => k = g) wr w') := hKK
      clear hd hmem htk hx hKE hR hKK hlt kE kK hi
      go_wp2_with fail
      refine E1.out.mono ?_
      rintro e w4 ⟨rfl, rfl⟩
      clear E1
      go_wp2_with fail
      refine E2.out.mono ?_
      rintro e w5 ⟨rfl, hr5, hc5⟩
      have H5 : Hid (Rdr w5 g ((ks.drop (i + 1)).flatMap kN) ∧ GOwn 25 3 kyV w5 (g + 1) (.slice a i c) (ks.take i) ∧ Below w.heap.size w w5 ∧ w.heap.size ≤ g ∧ g < w5.heap.size) := by
        obtain ⟨i1, i2, i3, i4⟩ := hI.out
        have hg : g < w4.heap.size := by obtain ⟨_, _, hb, _⟩ := i1; exact hb.lt
        refine ⟨hr5, owns_same i2 (fun k hk => ?_), i3.trans (hc5.below i3.size (fun k hk => by rw [hk]; exact i4)), i4, by obtain ⟨_, _, hb, _⟩ := hr5; exact hb.lt⟩
        have hk2 := World.ownsRow.lt (show World.ownsRow _ _ _ _ _ _ _ from i2) k hk
        exact hc5.2.2.2.2 k hk2.2 (fun e => by have := hk2.1; omega)
      clear E2 hr5 hc5 hI
      obtain ⟨w6, hw6⟩ : ∃ W, w5.alloc (.cells #[.string d, .string r, .bool v] 25) = W := ⟨_, rfl⟩
      have b6 : Box w6 w5.heap.size 25 #[.string d, .string r, .bool v] := by rw [← hw6]; exact Box.new _ _ _
      have e0 : w6.cell? ⟨w5.heap.size, 0, none⟩ = some (.string d) := (b6.cell 0 (by simp)).1
      have e1 : w6.cell? ⟨w5.heap.size, 1, none⟩ = some (.string r) := (b6.cell 1 (by simp)).1
      have e2 : w6.cell? ⟨w5.heap.size, 2, none⟩ = some (.bool v) := (b6.cell 2 (by simp)).1
      obtain ⟨w7, hw7⟩ : ∃ W, w6.alloc (.cells #[.string d, .string r, .bool v] 25) = W := ⟨_, rfl⟩
      have hb57 : Below w5.heap.size w5 w7 := by rw [← hw7, ← hw6]; exact ((Below.refl _ _).alloc (Nat.le_refl _) _).alloc (by simp) _
      have hg7 : GRow 3 kyV w7 (some ⟨w6.heap.size, 0, none⟩) [(d, r, v)] := by rw [← hw7]; exact g_new kyV kyV_len w6 _ [(d, r, v)]
      obtain ⟨v', w8, ra, ro, _, rb⟩ := append_gen KDk w7 (g + 1) (.slice a i c) (ks.take i) [(d, r, v)] _ 1 1 (H5.out.2.1.below hb57) hg7 rfl (by have := H5.out.2.2.2.2; have := hb57.size; omega) (by have := F.out.1; have := F.out.2.2; simp; omega)
      rw [← F.out.2.1] at ro
      obtain ⟨a', c', hv, _⟩ := ro.row kyV_len
      rw [List.length_take, Nat.min_eq_left (show i + 1 ≤ ks.length from F.out.1)] at hv
      subst hv
      have H8 : Hid (DkI w g ks (i + 1) (.slice a' (i + 1) c') w8) := ⟨(H5.out.1.below hb57).under rb, ro, (H5.out.2.2.1.trans (hb57.mono H5.out.2.2.1.size)).trans (rb.mono (by have := H5.out.2.2.2.1; omega)), H5.out.2.2.2.1⟩
      have ra' : Hid ((Builtin.append_ #[22, 22] 22 #[.slice a i c, .slice (some ⟨w6.heap.size, 0, none⟩) 1 1]).run Tryd.prog w7 = .ok (.slice a' (i + 1) c') w8) := ra
      clear b6 hb57 hg7 ro rb H5 hn' ra
      go_wp2_with (at_builtin; refine wp_app _ rfl _ _ _ rfl rfl _ _ _ _ rfl rfl ra'.out ?_; clear e0 e1 e2 ra')
      go_roundw
      case rel => exact ⟨i + 1, a', c', F.out.1, rfl, H8⟩
      case measure => have := F.out.1; simp [slN]; omega
    · have hie : i = ks.length := by omega
      subst hie
      have hKE := kE.out g wr _ hI.out.1
      rw [List.drop_length, List.flatMap_nil, decide_eq_true rfl] at hKE
      have E1 : Hid (Calls Tryd.prog 21 #[.pointer (some ⟨g, 0, none⟩)] wr fun e w' => e = .returned (.bool true) ∧ w' = wr) := hKE
      clear hKE kE kK hlt hi
      go_wp2_with fail
      refine E1.out.mono ?_
      rintro e w4 ⟨rfl, rfl⟩
      clear E1
      have Hf : Hid (GOwn 25 3 kyV w4 w.heap.size (.slice a ks.length c) ks ∧ Below w.heap.size w w4) := by
        obtain ⟨i1, i2, i3, i4⟩ := hI.out
        rw [List.take_length] at i2
        exact ⟨owns_base i2 (by omega), i3⟩
      clear hI
      generalize ks.length = nk at *
      go_wp2_with fail
      go_ret2
      exact ⟨⟨_, rfl, Hf.out.1⟩, Hf.out.2⟩
end Vr
end Go.Proofs.YtoknbicfbeocbaaDoor
