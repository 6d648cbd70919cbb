import Derived.Test.YtofghgggllfafaaDoorMgOwn
import Derived.Test.YtofghgggllfafaaDoorFlCopy
namespace Go.Proofs.YtofghgggllfafaaDoor
open Go.RowKit
set_option linter.unusedVariables false

theorem FRow.rd {w : World} {a : Option Addr} {l : List Nod} (h : FRow w a l) : RdG 9 nV nT w a l := ⟨fun i hi => (h i hi).1, fun y hy => by
  obtain ⟨i, hi, rfl⟩ := List.mem_iff_getElem.1 hy
  exact (h i hi).2⟩
theorem RdG.fr {w : World} {a : Option Addr} {l : List Nod} (h : RdG 9 nV nT w a l) : FRow w a l := fun i hi => ⟨h.1 i hi, h.2 _ (List.getElem_mem hi)⟩
theorem flat_set {α : Type} (V : α → List Value) (k : Nat) (hV : ∀ x, (V x).length = k) (u : Value) (y : α) (j : Nat) (hj : j < k) : ∀ (L : List α) (i : Nat) (hi : i < L.length), V y = (V L[i]).set j u → (L.flatMap V).set (i * k + j) u = (L.set i y).flatMap V
  | x :: L, 0, hi, hy => by
    rw [List.flatMap_cons, List.set_cons_zero, List.flatMap_cons, Nat.zero_mul, Nat.zero_add, hy, List.set_append_left _ _ (by rw [hV]; exact hj)]
    rfl
  | x :: L, i + 1, hi, hy => by
    have ih := flat_set V k hV u y j hj L i (by simpa using hi) (by simpa using hy)
    rw [List.flatMap_cons, List.set_cons_succ, List.flatMap_cons, ← ih, List.set_append_right _ _ (by rw [hV, Nat.succ_mul]; omega), hV]
    congr 2
    rw [Nat.succ_mul]
    omega
/-- A cell of a row of the call's own is written. -/
theorem GOwn.put {α : Type} {t : TypeId} {k : Nat} {V : α → List Value} (hV : ∀ x, (V x).length = k) {w : World} {B n cap g : Nat} {L : List α} (h : GOwn t k V w B (.slice (some ⟨g, 0, none⟩) n cap) L) (i j : Nat) (hi : i < L.length) (hj : j < k) (u : Value) (y : α) (hy : V y = (V L[i]).set j u) : GOwn t k V (w.setCell ⟨g, i * k + j, none⟩ u) B (.slice (some ⟨g, 0, none⟩) n cap) (L.set i y) := by
  obtain ⟨h1, h2 | ⟨g', cap', cur, e, hB, hh, hc1, hc2, hs, ht⟩⟩ := h
  · cases h2.1
  · injection e with e1 e2 e3
    injection e1 with e1
    injection e1 with e1
    subst e1 e3
    refine ⟨?_, Or.inr ⟨g, cap, cur.setIfInBounds (i * k + j) u, by rw [List.length_set, e2], hB, Go.heap_setCell_same _ _ _ _ _ _ hh, by rw [List.length_set]; exact hc1, hc2, by simpa using hs, ?_⟩⟩
    · rw [← flat_set V k hV u y j hj L i hi hy, List.length_set, List.length_set]
      exact h1
    · rw [List.length_set, Array.toList_setIfInBounds, List.take_set, ht]
      exact flat_set V k hV u y j hj L i hi hy
/-- A row of structs appended to a row of the call's own. -/
theorem append_gen {α : Type} {t ts : TypeId} {k nb : Nat} {V : α → List Value} (KD : Kd t ts k nb V) (w : World) (B : Nat) (v : Value) (l m : List α) (a : Option Addr) (n c : Nat) (hown : GOwn t k V w B v l) (hm : GRow k V w a m) (hn : n = m.length) (hB : B ≤ w.heap.size) (hsz : (l.length + m.length) * nb ≤ 140737488355328) (hnb : 1 ≤ nb) :
    ∃ v' w', (Builtin.append_ #[ts, ts] ts #[v, .slice a n c]).run Tryd.prog w = .ok v' w' ∧ GOwn t k V w' B v' (l ++ m) ∧ Below B w w' ∧ (∀ b, b < w.heap.size → v.ownBlock ≠ some b → w'.heap[b]? = w.heap[b]?) := by
  subst hn
  obtain ⟨hund, ⟨i0, z0, hi, hz0, hz1, hz2, hz3⟩, hk, hV, h1V, _⟩ := KD
  by_cases h0 : m.length = 0
  · have hk0 := List.eq_nil_of_length_eq_zero h0
    subst hk0
    refine ⟨v, w, ?_, by rw [List.append_nil]; exact hown, Below.refl _ _, fun _ _ _ => rfl⟩
    have hf := owns_form (show w.ownsRow B t k v l.length _ from hown)
    cases a with
    | none =>
      rcases hf with ⟨rfl, h⟩ | ⟨g, cap, rfl, hc, _⟩
      · simp [Builtin.append_, run_underlying hund, sizeOf, typeInfo, hi, Builtin.lenOf, Builtin.firstCells]
      · simp [Builtin.append_, run_underlying hund, sizeOf, typeInfo, hi, Builtin.lenOf, Builtin.firstCells, hc, storeCells]
    | some d =>
      rcases hf with ⟨rfl, h⟩ | ⟨g, cap, rfl, hc, _⟩
      · simp [Builtin.append_, run_underlying hund, sizeOf, typeInfo, hi, Builtin.lenOf, Builtin.firstCells, loadCells, loadCellsFrom]
      · simp [Builtin.append_, run_underlying hund, sizeOf, typeInfo, hi, Builtin.lenOf, Builtin.firstCells, loadCells, loadCellsFrom, hc, storeCells]
  · obtain ⟨b, off, rfl, _⟩ := hm 0 (by omega)
    have hfl : (m.flatMap V).length = m.length * k := flatV_len V k hV m
    have hnews : ∀ j u, (m.flatMap V)[j]? = some u → w.cell? ((⟨b, off, none⟩ : Addr).add j) = some u := by
      intro j u hj
      have hjn : j < m.length * k := by
        rcases Nat.lt_or_ge j (m.length * k) with h' | h'
        · exact h'
        · rw [List.getElem?_eq_none (by rw [hfl]; exact h')] at hj; cases hj
      have hq : j / k < m.length := (Nat.div_lt_iff_lt_mul hk).2 hjn
      have hr : j % k < k := Nat.mod_lt _ hk
      obtain ⟨b', off', e, hc⟩ := hm (j / k) hq
      injection e with e
      injection e with e1 e2
      subst e1 e2
      have ej : j / k * k + j % k = j := by rw [Nat.mul_comm]; exact Nat.div_add_mod j k
      have h2 := hc (j % k) hr
      have h3 := flatV_at V k hV m (j / k) hq (j % k) hr
      rw [ej, hj] at h3
      rw [Nat.add_assoc, ej] at h2
      rw [add_off, h2, ← h3]
    have h1 : ∀ u ∈ m.flatMap V, u.oneCell' = true := by
      intro u hu
      obtain ⟨x, _, hx⟩ := List.mem_flatMap.1 hu
      exact h1V x u hx
    have hml : l.length + m.length ≤ 140737488355328 := Nat.le_trans (Nat.le_mul_of_pos_right _ hnb) hsz
    obtain ⟨g, cap, w', hr, h2, h3, _, _⟩ := run_append_lies (P := Tryd.prog) w ts ts B t i0 z0 k nb hund hi hz0 hz1 hz2 hz3 hk v l.length (l.flatMap V) hown ⟨b, off, none⟩ m.length c (m.flatMap V) hfl hnews h1 (by omega) (by unfold maxLen; omega) hsz hB w.heap.size rfl
    refine ⟨_, w', hr, ?_, (Below.refl _ _).grown h3 hB (fun j hj => (World.ownsRow.lt (show w.ownsRow B t k v l.length (l.flatMap V) from hown) _ hj).1), fun b hb hne => h3.block b hb (fun hh => hne hh.symm)⟩
    unfold GOwn
    rw [List.flatMap_append, List.length_append]
    exact h2
/-- No two nodes' lists of pieces lie in one block. -/
def Dst (ys : List Nod) : Prop := ∀ (i j : Nat) (hi : i < ys.length) (hj : j < ys.length) (p : Addr), i < j → ys[i].a = some p → ys[j].a ≠ some p
theorem Dst.nil : Dst [] := fun i j hi => by simp at hi
theorem Dst.snoc {ys : List Nod} {y : Nod} (h : Dst ys) (hy : ∀ (i : Nat) (hi : i < ys.length) (p : Addr), ys[i].a = some p → y.a ≠ some p) : Dst (ys ++ [y]) := fun i j hi hj p hij he => by
  rw [List.length_append] at hi hj
  simp only [List.length_cons, List.length_nil] at hi hj
  by_cases hjl : j < ys.length
  · rw [List.getElem_append_left hjl]
    rw [List.getElem_append_left (by omega)] at he
    exact h i j (by omega) hjl p hij he
  · have hje : j = ys.length := by omega
    subst hje
    rw [List.getElem_append_left (by omega)] at he
    rw [List.getElem_append_right (Nat.le_refl _)]
    simp only [Nat.sub_self, List.getElem_cons_zero]
    exact hy i (by omega) p he
def OwnD (W : World) (B : Nat) (v : Value) (l : List Nod) : Prop := OwnF W B v l ∧ Dst l
end Go.Proofs.YtofghgggllfafaaDoor
