import Derived.Test.YtoiilplnhecokaaDoorBlE
import Derived.Test.YtoiilplnhecokaaDoorBlC
import Derived.Test.YtoiilplnhecokaaDoorBlD
import Derived.Test.YtoiilplnhecokaaDoorKeW
import Derived.Test.YtoiilplnhecokaaDoorRgN
namespace Go.Proofs.YtoiilplnhecokaaDoor
namespace Bl
open Go.RowKit
open TextMath (fold lo normal check)
open Ke (utf cn tyOk tyC tyR OkI OkP OkD keyTx keys Alike key_same PR okP_nodup)
open Du (PRow DRow PX GRow GOwn sd sd_len pV xV pV_len xV_len PO CpQ drow_at prow_at)
set_option linter.unusedVariables false
set_option maxRecDepth 100000

def kp (p : PR) : Bool × Bool × PR := (tyOk p.1, utf p.2, cn p)
/-- The same pairs in another order, spelt otherwise. -/
def Pm (a b : List PR) : Prop := (a.map kp).Perm (b.map kp)
theorem Pm.refl (a : List PR) : Pm a a := List.Perm.refl _
theorem Pm.len {a b : List PR} (h : Pm a b) : a.length = b.length := by simpa using h.length_eq
theorem Pm.ok {a b : List PR} (h : Pm a b) (hb : OkP b) : OkP a := by
  have hl := h.len
  have hall : ∀ p ∈ a, tyOk p.1 = true ∧ utf p.2 = true := fun p hp => by
    have h1 := h.subset (List.mem_map_of_mem (f := kp) hp)
    obtain ⟨q, hq, e⟩ := List.mem_map.1 h1
    obtain ⟨i, hi, rfl⟩ := List.getElem_of_mem hq
    obtain ⟨_, q1, _, q2⟩ := hb.2.2 i hi
    unfold kp at e
    injection e with e1 e2
    injection e2 with e2 _
    exact ⟨by rw [← e1]; exact q1, by rw [← e2]; exact q2⟩
  have hnd : (a.map fun p => tyC p.1).Nodup := by
    have h1 := okP_nodup hb
    have e : ∀ l : List PR, (l.map cn).map Prod.fst = (l.map kp).map fun x => x.2.2.1 := fun l => by rw [List.map_map, List.map_map]; rfl
    rw [e] at h1
    have h2 := ((h.map fun x => x.2.2.1).nodup_iff).2 h1
    rw [List.map_map] at h2
    exact h2
  refine ⟨by rw [hl]; exact hb.1, by rw [hl]; exact hb.2.1, fun i hi => ⟨hi, (hall _ (List.getElem_mem hi)).1, fun hm => ?_, (hall _ (List.getElem_mem hi)).2⟩⟩
  obtain ⟨p, hp, e⟩ := List.mem_map.1 hm
  rw [List.mem_take_iff_getElem] at hp
  obtain ⟨j, hj, rfl⟩ := hp
  unfold List.Nodup at hnd
  rw [List.pairwise_iff_getElem] at hnd
  have := hnd j i (by rw [List.length_map]; omega) (by rw [List.length_map]; exact hi) (by omega)
  rw [List.getElem_map, List.getElem_map] at this
  exact this e
theorem Pm.key {a b : List PR} (h : Pm a b) (hb : OkP b) : keyTx a = keyTx b := by
  refine (key_same (h.ok hb) hb).2 ⟨h.len, fun p hp => ?_⟩
  have h1 := h.subset (List.mem_map_of_mem (f := kp) hp)
  obtain ⟨q, hq, e⟩ := List.mem_map.1 h1
  unfold kp at e
  injection e with _ e
  injection e with _ e
  exact ⟨q, hq, e⟩
/-- One pair spelt otherwise, and put elsewhere. -/
theorem Pm.step {a b : List PR} (h : Pm a b) (j k : Nat) (hj : j < a.length) (hk : k < a.length) (q : PR) (hq : kp q = kp a[j]) :
    Pm (((a.set j q).set j ((a.set j q)[k]'(by rw [List.length_set]; exact hk))).set k ((a.set j q)[j]'(by rw [List.length_set]; exact hj))) b := by
  have h1 : Pm (a.set j q) b := by
    unfold Pm at *
    rw [List.map_set, hq]
    have e : (a.map kp).set j (kp a[j]) = a.map kp := by
      have : kp a[j] = (a.map kp)[j]'(by rw [List.length_map]; exact hj) := by simp
      rw [this]
      exact List.set_getElem_self _
    rw [e]
    exact h
  exact (List.Perm.map kp (@List.set_set_perm _ (a.set j q) j k (by rw [List.length_set]; exact hj) (by rw [List.length_set]; exact hk))).trans h1
theorem kp_eq {t t' v v' : List UInt8} (h1 : (tyR t').1 = (tyR t).1) (h2 : (tyR t').2.1 = (tyR t).2.1) (hu : utf v = true) (hu' : utf v' = true) (hn : normal v' = normal v) : kp (t', v') = kp (t, v) := by
  unfold kp cn tyOk tyC
  simp only [h1, h2, hu, hu', hn]
/-- What blanks and otherCase make of a value. -/
theorem val_eq {v v1 : List UInt8} (hf : fold v1 = fold v) (hu : utf v = true) (b1 b2 b3 : Bool) : utf (blk b1 b2 b3 v1) = true ∧ normal (blk b1 b2 b3 v1) = normal v := by
  have hu1 : utf v1 = true := by unfold utf at *; rw [fold_same_check hf]; exact hu
  exact ⟨utf_blk _ _ _ _ hu1, by rw [normal_blk, fold_same_normal hf]⟩

/-- A block of pairs. -/
def PBk (W : World) (g : Nat) (ps : List PR) : Prop := ∃ cs, W.heap[g]? = some (.cells cs 40 (0, 0)) ∧ ∀ k (h : k < ps.length), cs[k * 2]? = some (.string (S ps[k].1)) ∧ cs[k * 2 + 1]? = some (.string (S ps[k].2))
theorem PBk.cell {W : World} {g : Nat} {ps : List PR} (h : PBk W g ps) (k : Nat) (hk : k < ps.length) : W.cell? ⟨g, k * 2, none⟩ = some (.string (S ps[k].1)) ∧ W.cell? ⟨g, k * 2 + 1, none⟩ = some (.string (S ps[k].2)) ∧ W.frozen? ⟨g, k * 2, none⟩ = false ∧ W.frozen? ⟨g, k * 2 + 1, none⟩ = false := by
  obtain ⟨cs, h1, h2⟩ := h
  obtain ⟨h3, h4⟩ := h2 k hk
  exact ⟨by rw [cell_of_row _ _ _ _ _ _ h1]; exact h3, by rw [cell_of_row _ _ _ _ _ _ h1]; exact h4, Go.frozen_of_row _ _ _ _ _ h1, Go.frozen_of_row _ _ _ _ _ h1⟩
theorem PBk.prow {W : World} {g : Nat} {ps : List PR} (h : PBk W g ps) : PRow W (some ⟨g, 0, none⟩) ps := fun i hi => by
  refine ⟨g, 0, rfl, fun j hj => ?_⟩
  obtain ⟨h1, h2, _⟩ := h.cell i hi
  rw [Nat.zero_add]
  match j, hj with
  | 0, _ => exact h1
  | 1, _ => exact h2
theorem PBk.set1 {W : World} {g : Nat} {ps : List PR} (h : PBk W g ps) (j : Nat) (hj : j < ps.length) (t : List UInt8) : PBk (W.setCell ⟨g, j * 2, none⟩ (.string (S t))) g (ps.set j (t, ps[j].2)) := by
  obtain ⟨cs, h1, h2⟩ := h
  refine ⟨_, Go.heap_setCell_same _ _ _ _ _ _ h1, fun k hk => ?_⟩
  rw [List.length_set] at hk
  obtain ⟨h3, h4⟩ := h2 k hk
  have hs : k * 2 + 1 < cs.size := by
    rcases Nat.lt_or_ge (k * 2 + 1) cs.size with h | h
    · exact h
    · rw [Array.getElem?_eq_none h] at h4; cases h4
  rw [Array.getElem?_setIfInBounds, Array.getElem?_setIfInBounds]
  by_cases e : k = j
  · subst e
    rw [if_pos rfl, if_pos (by omega), if_neg (by omega)]
    simp only [List.getElem_set_self]
    exact ⟨trivial, h4⟩
  · rw [if_neg (by omega), if_neg (by omega), List.getElem_set_ne (by omega)]
    exact ⟨h3, h4⟩
theorem PBk.set2 {W : World} {g : Nat} {ps : List PR} (h : PBk W g ps) (j : Nat) (hj : j < ps.length) (t : List UInt8) : PBk (W.setCell ⟨g, j * 2 + 1, none⟩ (.string (S t))) g (ps.set j (ps[j].1, t)) := by
  obtain ⟨cs, h1, h2⟩ := h
  refine ⟨_, Go.heap_setCell_same _ _ _ _ _ _ h1, fun k hk => ?_⟩
  rw [List.length_set] at hk
  obtain ⟨h3, h4⟩ := h2 k hk
  have hs : k * 2 + 1 < cs.size := by
    rcases Nat.lt_or_ge (k * 2 + 1) cs.size with h | h
    · exact h
    · rw [Array.getElem?_eq_none h] at h4; cases h4
  rw [Array.getElem?_setIfInBounds, Array.getElem?_setIfInBounds]
  by_cases e : k = j
  · subst e
    rw [if_neg (by omega), if_pos rfl, if_pos hs]
    simp only [List.getElem_set_self]
    exact ⟨h3, trivial⟩
  · rw [if_neg (by omega), if_neg (by omega), List.getElem_set_ne (by omega)]
    exact ⟨h3, h4⟩
theorem PBk.put {W : World} {g : Nat} {ps : List PR} (h : PBk W g ps) (j : Nat) (hj : j < ps.length) (q : PR) : PBk ((W.setCell ⟨g, j * 2, none⟩ (.string (S q.1))).setCell ⟨g, j * 2 + 1, none⟩ (.string (S q.2))) g (ps.set j q) := by
  have h1 := (h.set1 j hj q.1).set2 j (by rw [List.length_set]; exact hj) q.2
  rw [List.set_set] at h1
  have e : ((ps.set j (q.1, ps[j].2))[j]'(by rw [List.length_set]; exact hj)).1 = q.1 := by simp
  rw [e] at h1
  exact h1
theorem PBk.of {W W' : World} {g : Nat} {ps : List PR} (h : PBk W g ps) (he : W'.heap[g]? = W.heap[g]?) : PBk W' g ps := by
  obtain ⟨cs, h1, h2⟩ := h
  exact ⟨cs, by rw [he]; exact h1, h2⟩
theorem PBk.lt {W : World} {g : Nat} {ps : List PR} (h : PBk W g ps) : g < W.heap.size := by
  obtain ⟨cs, h1, h2⟩ := h
  exact (Array.getElem?_eq_some_iff.1 h1).1
/-- A name that is a copy of the call's own: its list at ge, its parts each in a block of their own, all from B on. -/
def St (B : Nat) (W : World) (ge : Nat) (Ls : List PX) : Prop :=
  GRow 1 xV W (some ⟨ge, 0, none⟩) Ls ∧ B ≤ ge ∧ (∀ i (h : i < Ls.length), ∃ g, Ls[i].1 = some ⟨g, 0, none⟩ ∧ B ≤ g ∧ g ≠ ge ∧ PBk W g Ls[i].2.2 ∧ Ls[i].2.2.length ≤ Ls[i].2.1 ∧ Ls[i].2.1 ≤ maxLen) ∧ (∀ i j (hi : i < Ls.length) (hj : j < Ls.length), i < j → Ls[i].1 ≠ Ls[j].1)
theorem cell_of_heap {W W' : World} {b o : Nat} (h : W'.heap[b]? = W.heap[b]?) : W'.cell? ⟨b, o, none⟩ = W.cell? ⟨b, o, none⟩ := by unfold World.cell?; rw [h]
theorem St.same {B : Nat} {W W' : World} {ge : Nat} {Ls : List PX} (h : St B W ge Ls) (he : ∀ b, B ≤ b → b < W.heap.size → W'.heap[b]? = W.heap[b]?) : St B W' ge Ls := by
  obtain ⟨h1, h2, h3, h4⟩ := h
  refine ⟨fun i hi => ?_, h2, fun i hi => ?_, h4⟩
  · obtain ⟨b, off, e, h5⟩ := h1 i hi
    refine ⟨b, off, e, fun j hj => ?_⟩
    rw [← h5 j hj]
    injection e with e
    injection e with e1 _
    have hc := h5 j hj
    have hlt : b < W.heap.size := by
      have : (xV Ls[i])[j]? = some (.slice Ls[i].1 Ls[i].2.2.length Ls[i].2.1) := by
        have : j = 0 := by omega
        subst this; rfl
      rw [this] at hc
      exact World.block_lt_of_cell? _ _ hc
    exact cell_of_heap (he b (by omega) hlt)
  · obtain ⟨g, e, h5, h6, h7, h8⟩ := h3 i hi
    exact ⟨g, e, h5, h6, h7.of (he g h5 h7.lt), h8⟩
theorem St.below {B : Nat} {W W' : World} {ge : Nat} {Ls : List PX} (h : St B W ge Ls) (hb : Below W.heap.size W W') : St B W' ge Ls := h.same fun b _ hlt => hb.block b hlt
theorem St.drow {B : Nat} {W : World} {ge : Nat} {Ls : List PX} (h : St B W ge Ls) : DRow W (some ⟨ge, 0, none⟩) Ls := by
  obtain ⟨h1, h2, h3, h4⟩ := h
  refine ⟨h1, fun r hr => ?_⟩
  obtain ⟨i, hi, rfl⟩ := List.getElem_of_mem hr
  obtain ⟨g, e, h5, h6, h7, h8⟩ := h3 i hi
  rw [e]
  exact ⟨h7.prow, h8⟩
/-- One part is turned. -/
theorem St.turn {B : Nat} {W W' : World} {ge : Nat} {Ls : List PX} (h : St B W ge Ls) (i : Nat) (hi : i < Ls.length) (g : Nat) (hg : Ls[i].1 = some ⟨g, 0, none⟩) (ps : List PR) (hp : PBk W' g ps) (hl : ps.length = Ls[i].2.2.length) (he : ∀ b, b ≠ g → W'.heap[b]? = W.heap[b]?) :
    St B W' ge (Ls.set i (some ⟨g, 0, none⟩, Ls[i].2.1, ps)) := by
  obtain ⟨h1, h2, h3, h4⟩ := h
  obtain ⟨g', e', h5, h6, h7, h8, h9⟩ := h3 i hi
  have eg : g' = g := by
    rw [hg] at e'
    injection e' with e'
    injection e' with e'
    exact e'.symm
  subst eg
  refine ⟨fun k hk => ?_, h2, fun k hk => ?_, fun k j hk hj hkj => ?_⟩
  · rw [List.length_set] at hk
    obtain ⟨b, off, e, q⟩ := h1 k hk
    refine ⟨b, off, e, fun j hj => ?_⟩
    injection e with e
    injection e with e1 _
    rw [cell_of_heap (he b (by omega)), q j hj]
    by_cases hki : k = i
    · subst hki
      rw [List.getElem_set_self]
      unfold xV
      rw [hg, hl]
    · rw [List.getElem_set_ne (by omega)]
  · rw [List.length_set] at hk
    by_cases hki : k = i
    · subst hki
      rw [List.getElem_set_self]
      exact ⟨g', rfl, h5, h6, hp, by dsimp only; rw [hl]; exact h8, h9⟩
    · rw [List.getElem_set_ne (by omega)]
      obtain ⟨g2, e2, r5, r6, r7, r8⟩ := h3 k hk
      have hne : g2 ≠ g' := fun e => by
        rcases Nat.lt_or_ge k i with q | q
        · exact h4 k i hk hi q (by rw [e2, hg, e])
        · exact h4 i k hi hk (by omega) (by rw [e2, hg, e])
      exact ⟨g2, e2, r5, r6, r7.of (he g2 hne), r8⟩
  · rw [List.length_set] at hk hj
    have key : ∀ m (hm : m < Ls.length), ((Ls.set i (some ⟨g', 0, none⟩, Ls[i].2.1, ps))[m]'(by rw [List.length_set]; exact hm)).1 = Ls[m].1 := fun m hm => by
      by_cases e : m = i
      · subst e; rw [List.getElem_set_self, hg]
      · rw [List.getElem_set_ne (by omega)]
    rw [key k hk, key j hj]
    exact h4 k j hk hj hkj
/-- What copyDN gave. -/
theorem st_of {w w' : World} {L : List PX} {n : Nat} {a : Option Addr} {c : Nat} {Os : List PX} (h : CpQ w L n a c Os w') : ∃ ge, a = some ⟨ge, 0, none⟩ ∧ St w.heap.size w' ge Os := by
  obtain ⟨h1, h2, h3, ⟨g, zg, rfl, h4, h4'⟩, h5, h6, h7, h8⟩ := h
  have hg : w.heap.size ≤ g := (World.ownsRow.lt (show w'.ownsRow w.heap.size 36 1 _ _ _ from h4) g rfl).1
  refine ⟨g, rfl, ?_, hg, fun i hi => ?_, h8⟩
  · obtain ⟨a, c, e, _, _, hr⟩ := h4.row xV_len
    injection e with e1 _ e2
    subst e1
    exact hr.front
  · obtain ⟨g2, e2, h9⟩ := h6 _ (List.getElem_mem hi)
    obtain ⟨q1, q2, q3⟩ := Ke.po_row (h6 _ (List.getElem_mem hi))
    refine ⟨g2, e2, (World.ownsRow.lt (show w'.ownsRow w.heap.size 40 2 _ _ _ from h9) g2 rfl).1, fun e => ?_, ?_, by omega, q3⟩
    · subst e
      exact Du.owns_apart (show w'.ownsRow w.heap.size 40 2 _ _ _ from h9) (show w'.ownsRow w.heap.size 36 1 _ _ _ from h4) (by decide) (g := g2) rfl rfl
    · rcases h9.2 with ⟨e, _⟩ | ⟨g', cap, cur, e, k3, hb, k5, k6, k7, k8⟩
      · cases e
      · have eg : g' = g2 := by
          injection e with e1
          injection e1 with e1
          injection e1 with e1
          exact e1.symm
        subst eg
        refine ⟨cur, hb, fun k hk => ?_⟩
        rw [e2] at q1
        obtain ⟨b, off, e, hc⟩ := q1 k hk
        injection e with e
        injection e with e1 e3
        subst e1 e3
        have c0 := hc 0 (by omega)
        have c1 := hc 1 (by omega)
        rw [cell_of_row _ _ _ _ _ _ hb, Nat.zero_add] at c0 c1
        exact ⟨c0, c1⟩
end Bl
end Go.Proofs.YtoiilplnhecokaaDoor
