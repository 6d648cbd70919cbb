import Derived.Test.YtofghgggllfafaaDoorFgCop
namespace Go.Proofs.YtofghgggllfafaaDoor
open Go.RowKit
set_option linter.unusedVariables false

/-- A row of texts appended, with what else is left as it was. -/
theorem append_rowK (w : World) (B : Nat) (v : Value) (l k : List (List UInt8)) (a : Option Addr) (n c : Nat) (hown : OwnS w B v l) (hk : Row w a k) (hn : n = k.length) (hk0 : 0 < k.length) (hB : B ≤ w.heap.size) (hsz : (l.length + k.length) * 16 ≤ 140737488355328) :
    ∃ g cap w', (Builtin.append_ #[34, 34] 34 #[v, .slice a n c]).run Tryd.prog w = .ok (.slice (some ⟨g, 0, none⟩) (l.length + k.length) cap) w' ∧ OwnS w' B (.slice (some ⟨g, 0, none⟩) (l.length + k.length) cap) (l ++ k) ∧ Below B w w' ∧ (∀ b, b < w.heap.size → v.ownBlock ≠ some b → w'.heap[b]? = w.heap[b]?) ∧ (v.ownBlock = some g ∨ g = w.heap.size) := by
  subst hn
  obtain ⟨i0, hi, hz0, hz1, hz2⟩ := info_parts info_str
  obtain ⟨b, off, rfl, _⟩ := hk 0 hk0
  have hnews : ∀ j u, (sv k)[j]? = some u → w.cell? ((⟨b, off, none⟩ : Addr).add j) = some u := by
    intro j u hj
    have hjn : j < k.length := by
      rcases Nat.lt_or_ge j k.length with h' | h'
      · exact h'
      · rw [List.getElem?_eq_none (by rw [sv_len]; exact h')] at hj; cases hj
    obtain ⟨b', off', e, hc⟩ := hk j hjn
    injection e with e
    injection e with e1 e2
    subst e1 e2
    rw [add_off, hc, ← hj]
    simp [sv, hjn]
  obtain ⟨g, cap, w', hr, h2, h3, h4, _⟩ := run_append_lies (P := Tryd.prog) w 34 34 B 9 i0 _ 1 16 Tryd.underlying34 hi hz0 hz1 hz2 rfl (by decide) v l.length (sv l) hown ⟨b, off, none⟩ k.length c (sv k) (by rw [sv_len, Nat.mul_one]) hnews (sv_one _) hk0 (by unfold maxLen; omega) hsz hB w.heap.size rfl
  refine ⟨g, cap, w', hr, ?_, (Below.refl _ _).grown h3 hB (fun j hj => (World.ownsRow.lt (show w.ownsRow B 9 1 v l.length (sv l) from hown) _ hj).1), fun b hb hne => h3.block b hb (fun hh => hne hh.symm), h4⟩
  unfold OwnS
  rw [sv_app, List.length_append]
  exact h2
/-- The first i nodes' lists of pieces bear a mark behind them, the others' not yet. -/
def RM (W : World) (B : Nat) (v : Value) (zs : List Nod) (i : Nat) : Prop := GOwn 38 9 nV W B v zs ∧ (∀ (j : Nat) (hj : j < zs.length), j < i → ∃ g, zs[j].a = some ⟨g, 0, none⟩ ∧ Mkd W B g zs[j].n zs[j].l) ∧ (∀ (j : Nat) (hj : j < zs.length), i ≤ j → OwnS W B (.slice zs[j].a zs[j].l.length zs[j].n) zs[j].l) ∧ Dst zs
theorem RM.start {W : World} {B : Nat} {v : Value} {zs : List Nod} (h : OwnD W B v zs) : RM W B v zs 0 := ⟨h.1.1, fun j hj h0 => by omega, fun j hj _ => h.1.2 _ (List.getElem_mem hj), h.2⟩
theorem RM.done {W : World} {B : Nat} {v : Value} {zs : List Nod} (h : RM W B v zs zs.length) : OwnM 38 9 nV nT W B v zs := ⟨h.1, fun y hy => by
  obtain ⟨j, hj, rfl⟩ := List.mem_iff_getElem.1 hy
  exact h.2.1 j hj hj⟩
/-- Where node j's pieces lie, if they lie anywhere. -/
theorem RM.blk {W : World} {B : Nat} {v : Value} {zs : List Nod} {i : Nat} (h : RM W B v zs i) (j : Nat) (hj : j < zs.length) (p : Addr) (hp : zs[j].a = some p) : p = ⟨p.block, 0, none⟩ ∧ p.block < W.heap.size := by
  by_cases hji : j < i
  · obtain ⟨g, e, hm⟩ := h.2.1 j hj hji
    rw [e] at hp
    injection hp with hp
    subst hp
    exact ⟨rfl, hm.lt.2.1⟩
  · rcases ownS_form (h.2.2.1 j hj (by omega)) with ⟨e, _⟩ | ⟨g, cap, e, _, hlt, _⟩
    · injection e with e
      rw [hp] at e
      cases e
    · injection e with e
      rw [hp] at e
      injection e with e
      subst e
      exact ⟨rfl, hlt⟩
set_option maxRecDepth 100000 in
theorem rm_step {W : World} {B : Nat} {zs : List Nod} {i gv c : Nat} (h : RM W B (.slice (some ⟨gv, 0, none⟩) zs.length c) zs i) (hi : i < zs.length) (hB : B ≤ W.heap.size) (hl : zs[i].l.length ≤ 1048576) :
    ∃ g2 cap2 w2, (Builtin.append_ #[34, 34] 34 #[.slice zs[i].a zs[i].l.length zs[i].n, .slice (some ⟨W.heap.size, 0, none⟩) 1 1]).run Tryd.prog (W.alloc (.cells #[.string ⟨#[115, 112, 97, 114, 101]⟩] 9)) = .ok (.slice (some ⟨g2, 0, none⟩) (zs[i].l.length + 1) cap2) w2 ∧ zs[i].l.length ≤ cap2 ∧ Below B W w2 ∧
      (∃ u, w2.cell? ⟨gv, i * 9 + 5, none⟩ = some u) ∧ w2.frozen? ⟨gv, i * 9 + 5, none⟩ = false ∧
      RM (w2.setCell ⟨gv, i * 9 + 5, none⟩ (.slice (some ⟨g2, 0, none⟩) zs[i].l.length cap2)) B (.slice (some ⟨gv, 0, none⟩) zs.length c) (zs.set i { zs[i] with a := some ⟨g2, 0, none⟩, n := cap2 }) (i + 1) := by
  obtain ⟨wA, hwA⟩ : ∃ wA, W.alloc (.cells #[.string ⟨#[115, 112, 97, 114, 101]⟩] 9) = wA := ⟨_, rfl⟩
  have hbA : Below W.heap.size W wA := by rw [← hwA]; exact (Below.refl _ _).alloc (Nat.le_refl _) _
  have hszA : wA.heap.size = W.heap.size + 1 := by rw [← hwA]; simp
  have hown : OwnS wA B (.slice zs[i].a zs[i].l.length zs[i].n) zs[i].l := ownS_below (h.2.2.1 i hi (Nat.le_refl _)) hbA
  have hsA : Row wA (some ⟨W.heap.size, 0, none⟩) [spr] := by
    intro k hk
    simp at hk
    subst hk
    refine ⟨W.heap.size, 0, rfl, ?_⟩
    rw [← hwA]
    simp [go_sem, S, spr]
  obtain ⟨g2, cap2, w2, hr, ho, hb, hkp, hg⟩ := append_rowK wA B _ zs[i].l [spr] _ 1 1 hown hsA rfl (by decide) (by omega) (by simp; omega)
  rw [hwA]
  have hcap : zs[i].l.length + 1 ≤ cap2 := by
    have := (owns_cap (show w2.ownsRow B 9 1 _ _ _ from ho)).2
    rw [List.length_append] at this
    exact this
  have hlen : (zs[i].l ++ [spr]).length = zs[i].l.length + 1 := by simp
  have ho' : Mkd w2 B g2 cap2 zs[i].l := ho
  have hGA : GOwn 38 9 nV wA B (.slice (some ⟨gv, 0, none⟩) zs.length c) zs := owns_same (show W.ownsRow B 38 9 _ _ _ from h.1) (fun b hb' => hbA.block b (World.ownsRow.lt (show W.ownsRow B 38 9 _ _ _ from h.1) b hb').2)
  have hgv : gv < wA.heap.size := (World.ownsRow.lt (show wA.ownsRow B 38 9 _ _ _ from hGA) gv rfl).2
  have hgvne : (Value.slice zs[i].a zs[i].l.length zs[i].n).ownBlock ≠ some gv := owns_apart (show wA.ownsRow B 38 9 _ _ _ from hGA) (show wA.ownsRow B 9 1 _ _ _ from hown) (by decide) (g := gv) rfl
  have hG2 : GOwn 38 9 nV w2 B (.slice (some ⟨gv, 0, none⟩) zs.length c) zs := owns_same (show wA.ownsRow B 38 9 _ _ _ from hGA) (fun b hb' => by injection hb' with hb'; subst hb'; exact hkp _ hgv hgvne)
  have hg2gv : g2 ≠ gv := fun e => by
    subst e
    exact owns_apart (show w2.ownsRow B 38 9 _ _ _ from hG2) (show w2.ownsRow B 9 1 _ _ _ from ho) (by decide) (g := g2) rfl rfl
  have hfro : w2.frozen? ⟨gv, i * 9 + 5, none⟩ = false := by
    obtain ⟨h1, h2 | ⟨g', cap', cur, e, hB', hh, _⟩⟩ := hG2
    · cases h2.1
    · injection e with e1
      injection e1 with e1
      injection e1 with e1
      subst e1
      exact Go.frozen_of_row _ _ _ _ _ hh
  have hcell : ∃ u, w2.cell? ⟨gv, i * 9 + 5, none⟩ = some u := by
    have hlt : i * 9 + 5 < zs.length * 9 := by omega
    have hc := World.ownsRow.cellAt (show w2.ownsRow B 38 9 _ zs.length (zs.flatMap nV) from hG2) (i * 9 + 5) hlt
    exact ⟨_, hc.trans (flatV_at nV 9 nV_len zs i hi 5 (by decide))⟩
  -- blocks of other nodes
  have hoth : ∀ (j : Nat) (hj : j < zs.length) (p : Addr), j ≠ i → zs[j].a = some p → (Value.slice zs[i].a zs[i].l.length zs[i].n).ownBlock ≠ some p.block ∧ p.block < W.heap.size := fun j hj p hji hp => by
    obtain ⟨e1, h1⟩ := h.blk j hj p hp
    refine ⟨fun hh => ?_, h1⟩
    cases hxa : zs[i].a with
    | none => rw [hxa] at hh; cases hh
    | some q =>
      rw [hxa] at hh
      injection hh with hh
      obtain ⟨e2, _⟩ := h.blk i hi q hxa
      have hpq : p = q := by rw [e1, e2]; rw [show q.block = p.block from hh]
      subst hpq
      rcases Nat.lt_or_ge j i with h3 | h3
      · exact h.2.2.2 j i hj hi p h3 hp hxa
      · exact h.2.2.2 i j hi hj p (by omega) hxa hp
  have keep : ∀ (b : Nat), b < W.heap.size → (Value.slice zs[i].a zs[i].l.length zs[i].n).ownBlock ≠ some b → b ≠ gv → (w2.setCell ⟨gv, i * 9 + 5, none⟩ (.slice (some ⟨g2, 0, none⟩) zs[i].l.length cap2)).heap[b]? = W.heap[b]? := fun b h1 h2 h3 => by
    rw [Below.heap_setCell _ _ _ _ (by show b ≠ gv; exact h3), hkp b (by omega) h2, hbA.block b h1]
  refine ⟨g2, cap2, w2, hr, by omega, (hbA.mono hB).trans hb, hcell, hfro, ?_, ?_, ?_, ?_⟩
  · exact hG2.put nV_len i 5 hi (by decide) _ _ rfl
  · intro j hj hji
    rw [List.length_set] at hj
    by_cases hje : j = i
    · subst hje
      refine ⟨g2, by simp, ?_⟩
      simp only [List.getElem_set_self]
      exact ho'.of (Below.heap_setCell _ _ _ _ (by show g2 ≠ gv; exact hg2gv))
    · rw [List.getElem_set_ne (fun e => hje e.symm)]
      obtain ⟨g, e, hm⟩ := h.2.1 j hj (by omega)
      obtain ⟨h1, h2⟩ := hoth j hj _ hje e
      refine ⟨g, e, hm.of (keep g h2 h1 (fun e2 => ?_))⟩
      exact Mkd.apart (by decide) h.1 hm (by rw [e2]; rfl)
  · intro j hj hji
    rw [List.length_set] at hj
    have hje : j ≠ i := by omega
    rw [List.getElem_set_ne (fun e => hje e.symm)]
    have hs := h.2.2.1 j hj (by omega)
    refine owns_same (show W.ownsRow B 9 1 _ _ _ from hs) (fun b hb' => ?_)
    cases hxa : zs[j].a with
    | none => rw [hxa] at hb'; cases hb'
    | some p =>
      rw [hxa] at hb'
      injection hb' with hb'
      obtain ⟨h1, h2⟩ := hoth j hj p hje hxa
      subst hb'
      refine keep _ h2 h1 (fun e2 => ?_)
      exact owns_apart (show W.ownsRow B 38 9 _ _ _ from h.1) (show W.ownsRow B 9 1 _ _ _ from hs) (by decide) (g := gv) rfl (by rw [hxa]; show some p.block = some gv; rw [e2])
  · intro j k hj hk p hjk he hf
    have hj' : j < zs.length := by rw [List.length_set] at hj; exact hj
    have hk' : k < zs.length := by rw [List.length_set] at hk; exact hk
    have new : ∀ (m : Nat) (hm : m < zs.length), m ≠ i → zs[m].a = some ⟨g2, 0, none⟩ → False := fun m hm hmi hme => by
      obtain ⟨h1, h2⟩ := hoth m hm _ hmi hme
      rcases hg with hg | hg
      · exact h1 hg
      · replace h2 : g2 < W.heap.size := h2
        omega
    by_cases hji : j = i
    · subst hji
      simp only [List.getElem_set_self] at he
      injection he with he
      subst he
      rw [List.getElem_set_ne (by omega)] at hf
      exact new k hk' (by omega) hf
    · rw [List.getElem_set_ne (fun e => hji e.symm)] at he
      by_cases hki : k = i
      · subst hki
        simp only [List.getElem_set_self] at hf
        injection hf with hf
        subst hf
        exact new j hj' hji he
      · rw [List.getElem_set_ne (fun e => hki e.symm)] at hf
        exact h.2.2.2 j k hj' hk' p hjk he hf
end Go.Proofs.YtofghgggllfafaaDoor
