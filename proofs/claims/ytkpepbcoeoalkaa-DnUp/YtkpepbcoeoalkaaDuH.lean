import Derived.Test.YtkpepbcoeoalkaaDuG
namespace Go.Proofs.Ytkpepbcoeoalkaa
namespace Du
open Go.RowKit Go.Lib
set_option linter.unusedVariables false
set_option maxRecDepth 100000

/-- Only the blocks from S1 to S2, and new ones, may have turned. -/
def Md (S1 S2 : Nat) (w W : World) : Prop := (W.os = w.os ∧ W.tape = w.tape ∧ W.output = w.output) ∧ w.heap.size ≤ W.heap.size ∧ ∀ k, k < w.heap.size → (k < S1 ∨ S2 ≤ k) → W.heap[k]? = w.heap[k]?
theorem Md.refl (S1 S2 : Nat) (w : World) : Md S1 S2 w w := ⟨⟨rfl, rfl, rfl⟩, Nat.le_refl _, fun _ _ _ => rfl⟩
theorem Md.below {S1 S2 : Nat} {w W W' : World} (h : Md S1 S2 w W) (hb : Below W.heap.size W W') : Md S1 S2 w W' :=
  ⟨⟨hb.os.trans h.1.1, hb.tape.trans h.1.2.1, hb.output.trans h.1.2.2⟩, Nat.le_trans h.2.1 hb.size, fun k hk h1 => (hb.block k (Nat.lt_of_lt_of_le hk h.2.1)).trans (h.2.2 k hk h1)⟩
theorem Md.set {S1 S2 : Nat} {w W : World} (h : Md S1 S2 w W) (b j : Nat) (v : Value) (hb : (S1 ≤ b ∧ b < S2) ∨ w.heap.size ≤ b) : Md S1 S2 w (W.setCell ⟨b, j, none⟩ v) := by
  have hz := (Below.refl (B := 0) (w := W)).setCell (p := ⟨b, j, none⟩) (Nat.zero_le _) v
  refine ⟨⟨hz.os.trans h.1.1, hz.tape.trans h.1.2.1, hz.output.trans h.1.2.2⟩, Nat.le_trans h.2.1 hz.size, fun k hk h1 => ?_⟩
  rw [Below.heap_setCell _ _ _ _ (show k ≠ b by omega)]
  exact h.2.2 k hk h1
theorem Md.grown {S1 S2 : Nat} {w W W' : World} {row : Option Nat} (h : Md S1 S2 w W) (hg : W.grownBy W' row) (hr : ∀ b, row = some b → (S1 ≤ b ∧ b < S2) ∨ w.heap.size ≤ b) : Md S1 S2 w W' :=
  ⟨⟨hg.os.trans h.1.1, hg.tape.trans h.1.2.1, hg.output.trans h.1.2.2⟩, Nat.le_trans h.2.1 hg.size, fun k hk h1 => (hg.block k (Nat.lt_of_lt_of_le hk h.2.1) (fun e => by have := hr k e.symm; omega)).trans (h.2.2 k hk h1)⟩
/-- A part's shape: a row of its own, with room for one more. -/
def PSh (B : Nat) (r : PX) (W : World) : Prop := ∃ g ps, r.1 = some ⟨g, 0, none⟩ ∧ ps.length = r.2.2.length + 1 ∧ GOwn 38 2 pV W B (.slice (some ⟨g, 0, none⟩) (r.2.2.length + 1) r.2.1) ps
theorem PSh.of {B : Nat} {r : PX} {W : World} (h : PO B r W) : PSh B r W := by
  obtain ⟨g, e, h1⟩ := h
  exact ⟨g, _, e, by simp, h1⟩
theorem PSh.below {B : Nat} {r : PX} {W W' : World} (h : PSh B r W) (hb : Below W.heap.size W W') : PSh B r W' := by
  obtain ⟨g, ps, e, h0, h1⟩ := h
  exact ⟨g, ps, e, h0, h1.below hb⟩
theorem PSh.keep {B : Nat} {r : PX} {W W' : World} (h : PSh B r W) (hb : ∀ g, r.1 = some ⟨g, 0, none⟩ → W'.heap[g]? = W.heap[g]?) : PSh B r W' := by
  obtain ⟨g, ps, e, h0, h1⟩ := h
  exact ⟨g, ps, e, h0, owns_same h1 (fun g' hg' => by injection hg' with hg'; subst hg'; exact hb _ e)⟩
/-- Its block is no block of another type. -/
theorem PSh.ne {B : Nat} {r : PX} {W : World} (h : PSh B r W) {b : Nat} {cs : Array Value} {t : TypeId} {fz : Nat × Nat} (hb : W.heap[b]? = some (.cells cs t fz)) (ht : t ≠ 38) (g : Nat) (hg : r.1 = some ⟨g, 0, none⟩) : g ≠ b := by
  obtain ⟨g', ps, e, h0, h1⟩ := h
  intro hgb
  subst hgb
  rw [hg] at e
  injection e with e
  injection e with e
  subst e
  rcases h1.2 with ⟨e, _⟩ | ⟨g2, cap, cur, e, _, h4, _⟩
  · cases e
  · injection e with e1 _ _
    injection e1 with e1
    injection e1 with e1
    subst e1
    rw [hb] at h4
    injection h4 with h4
    injection h4 with _ h4 _
    exact ht h4
/-- One pair written into it. -/
theorem PSh.put {B : Nat} {r : PX} {W : World} (h : PSh B r W) (g : Nat) (hg : r.1 = some ⟨g, 0, none⟩) (j : Nat) (hj : j < r.2.2.length + 1) (s t : List UInt8) :
    PSh B r ((W.setCell ⟨g, j * 2, none⟩ (.string (S s))).setCell ⟨g, j * 2 + 1, none⟩ (.string (S t))) ∧ (∃ u v, W.cell? ⟨g, j * 2, none⟩ = some u ∧ W.cell? ⟨g, j * 2 + 1, none⟩ = some v) ∧ W.frozen? ⟨g, j * 2, none⟩ = false ∧ W.frozen? ⟨g, j * 2 + 1, none⟩ = false := by
  obtain ⟨g', ps, e, h0, h1⟩ := h
  rw [hg] at e
  injection e with e
  injection e with e
  subst e
  obtain ⟨a, c, e2, _, _, hr⟩ := h1.row pV_len
  injection e2 with e3 _ e4
  subst e3
  obtain ⟨b, off, e5, p1, p2⟩ := prow_at hr j (by omega)
  injection e5 with e5
  injection e5 with e5 e6
  subst e5 e6
  rw [Nat.zero_add] at p1 p2
  rcases h1.2 with ⟨e, _⟩ | ⟨g2, cap, cur, e, k3, k4, k5, k6, k7, k8⟩
  · cases e
  · injection e with e1 _ e9
    injection e1 with e1
    injection e1 with e1
    subst e1 e9
    refine ⟨⟨g, ps.set j (s, t), hg, by rw [List.length_set]; exact h0, ?_⟩, ⟨_, _, p1, p2⟩, Go.frozen_of_row _ _ _ _ _ k4, Go.frozen_of_row _ _ _ _ _ k4⟩
    have hh1 := Go.heap_setCell_same W g (j * 2) cur 38 (.string (S s)) k4
    have hh2 := Go.heap_setCell_same _ g (j * 2 + 1) _ 38 (.string (S t)) hh1
    unfold GOwn
    rw [List.length_set, h0]
    refine ⟨by rw [flatV_len pV 2 pV_len, List.length_set, h0], Or.inr ⟨g, r.2.1, _, rfl, k3, hh2, by rw [← h0]; exact k5, k6, by simpa using k7, ?_⟩⟩
    have hlen : (ps.flatMap pV).length = (r.2.2.length + 1) * 2 := by rw [flatV_len pV 2 pV_len, h0]
    rw [h0] at k8
    apply List.ext_getElem?
    intro i
    by_cases hi : i < (r.2.2.length + 1) * 2
    · have hq : i / 2 < ps.length := by omega
      have hr2 : i % 2 < 2 := Nat.mod_lt _ (by omega)
      have ei : i / 2 * 2 + i % 2 = i := by omega
      have h3 := flatV_at pV 2 pV_len (ps.set j (s, t)) (i / 2) (by rw [List.length_set]; exact hq) (i % 2) hr2
      have h4 := flatV_at pV 2 pV_len ps (i / 2) hq (i % 2) hr2
      rw [ei] at h3 h4
      rw [h3, List.getElem?_take_of_lt hi]
      have h5 : cur.toList[i]? = (ps.flatMap pV)[i]? := by rw [← k8, List.getElem?_take_of_lt hi]
      have hcs : i < cur.size := by rw [k7]; omega
      by_cases e1 : i = j * 2
      · subst e1
        have : j * 2 / 2 = j := by omega
        have e2 : j * 2 % 2 = 0 := by omega
        simp [this, e2, pV, hcs]
      · by_cases e2 : i = j * 2 + 1
        · subst e2
          have : (j * 2 + 1) / 2 = j := by omega
          have e3 : (j * 2 + 1) % 2 = 1 := by omega
          simp [this, e3, pV, hcs]
        · have hne : j ≠ i / 2 := by omega
          rw [List.getElem_set_ne hne, ← h4, ← h5]
          simp [Ne.symm e1, Ne.symm e2]
    · rw [List.getElem?_take_eq_none (by omega), List.getElem?_eq_none (by rw [flatV_len pV 2 pV_len, List.length_set, h0]; omega)]
/-- The name's list and its parts. -/
def MkA (S1 S2 : Nat) (w : World) (ga n c : Nat) (Os : List PX) (j0 : Nat) (W : World) : Prop := Md S1 S2 w W ∧ (∃ Ds, Ds.length = n + 1 ∧ GOwn 36 1 xV W S1 (.slice (some ⟨ga, 0, none⟩) (n + 1) c) Ds ∧ Ds.take n = Os) ∧ ∀ i (h : i < Os.length), j0 ≤ i → PSh S1 Os[i] W
/-- The box of the result. -/
def RBx (w W : World) : Prop := W.heap[w.heap.size]? = some (.cells #[.slice none 0 0, .slice none 0 0, .slice none 0 0, .slice none 0 0, .string ⟨#[]⟩] 32 (0, 0))
/-- A list of parts lies not in a box of marks. -/
theorem row_ne {W : World} {B : Nat} {v : Value} {l : List PX} (h : GOwn 36 1 xV W B v l) {b : Nat} {cs : Array Value} {fz : Nat × Nat} (hb : W.heap[b]? = some (.cells cs 32 fz)) : some b ≠ v.ownBlock := fun e => by
  rcases h.2 with ⟨e', _⟩ | ⟨g2, cap, cur, e', _, h4, _⟩
  · rw [e'] at e; cases e
  · rw [e'] at e
    injection e with e
    subst e
    rw [hb] at h4
    injection h4 with h4
    injection h4 with _ h4 _
    exact absurd h4 (by decide)
/-- The record of the marks, and the list of the rows. -/
def MkX (w : World) (ga n c : Nat) (M : ByteArray) (ra : Option Addr) (rn rc : Nat) (Rs : List PX) (la : Option Addr) (ln lc : Nat) (W : World) : Prop :=
  W.heap[w.heap.size + 1]? = some (.cells #[.slice ra rn rc, .slice la ln lc, .slice (some ⟨ga, 0, none⟩) n c, .slice none 0 0, .string M] 32 (0, 0)) ∧ GOwn 36 1 xV W w.heap.size (.slice ra rn rc) Rs ∧ rn = Rs.length ∧ RBx w W
theorem KDr : Kd 36 22 1 24 xV := by
  obtain ⟨i0, hi, hz0, hz1, hz2⟩ := info_parts info_rdn
  exact ⟨Try.underlying22, ⟨i0, _, hi, hz0, hz1, hz2, rfl⟩, by decide, by decide, xV_len, fun x u hu => by simp [xV] at hu; rcases hu with rfl; rfl⟩
theorem MkA.cell {S1 S2 : Nat} {w : World} {ga n c : Nat} {Os : List PX} {j0 : Nat} {W : World} (h : MkA S1 S2 w ga n c Os j0 W) (i : Nat) (hi : i < n) (hO : i < Os.length) : W.cell? ⟨ga, i, none⟩ = some (.slice Os[i].1 Os[i].2.2.length Os[i].2.1) := by
  obtain ⟨_, ⟨Ds, h1, h2, h3⟩, _⟩ := h
  have h2' : GOwn 36 1 xV W S1 (.slice (some ⟨ga, 0, none⟩) Ds.length c) Ds := by rw [h1]; exact h2
  have := (own_cell h2' i (by omega)).1
  rw [this]
  have e : Ds[i]'(by omega) = Os[i] := by
    subst h3
    simp
  rw [e]
  rfl
theorem step_run {P : Program} (w : World) {ops : Array Oper} {o : Oper} {a : Act} {K : Act → World → Prop} {Q : Exit → Act → World → Prop} {E : Prop} (hgd : o.guard = none) (s x : Operand) (t tn : TypeId)
    (ho : o.op = .call { callee := .builtin .append, args := #[s, x], argTypes := #[t, tn] }) (vs vx : Value) (hs : a.eval s = vs) (hx : a.eval x = vx)
    (v' : Value) (w' : World) (hr : (Builtin.append_ #[t, tn] o.type #[vs, vx]).run P w = .ok v' w') (h : K (a.put o.dst v') w') : if Region.wanted o (yielded ops a.tmps) = true then Oper.wp P o a w K Q else E := by
  have hw : Region.wanted o (yielded ops a.tmps) = true := by simp [Region.wanted, hgd]
  rw [if_pos hw]
  exact Lib.wp_append_run w s x t tn ho vs vx hs hx v' w' hr h
/-- A row put into the list of rows. -/
theorem mk_row {S1 S2 : Nat} {w : World} {ga n c : Nat} {Os : List PX} {M : ByteArray} {ra : Option Addr} {rn rc : Nat} {Rs : List PX} {W : World} (hA : MkA S1 S2 w ga n c Os 0 W) (hX : MkX w ga n c M ra rn rc Rs none 0 0 W) (hS : S2 ≤ w.heap.size) (hga : ga < S2) (hR : Rs.length ≤ 5864062014634) (pa : Option Addr) (pc : Nat) (ps : List PR) :
    ∃ va vn vc w1 W2, W.cell? ⟨w.heap.size + 1, 0, none⟩ = some (.slice ra rn rc) ∧
      (Builtin.append_ #[22, 22] 22 #[.slice ra rn rc, .slice (some ⟨W.heap.size, 0, none⟩) 1 1]).run Try.prog (W.alloc (.cells #[.slice pa ps.length pc] 36)) = .ok (.slice va vn vc) w1 ∧
      ((w1.cell? ⟨w.heap.size + 1, 0, none⟩ = some (.slice ra rn rc) ∧ ∀ k, w1.cell? ⟨ga, k, none⟩ = W.cell? ⟨ga, k, none⟩) ∧ w1.frozen? ⟨w.heap.size + 1, 0, none⟩ = false) ∧ w1.setCell ⟨w.heap.size + 1, 0, none⟩ (.slice va vn vc) = W2 ∧ MkA S1 S2 w ga n c Os 0 W2 ∧ MkX w ga n c M va vn vc (Rs ++ [(pa, pc, ps)]) none 0 0 W2 := by
  obtain ⟨x1, x2, x3, x4⟩ := hX
  obtain ⟨a1, ⟨Ds, d1, d2, d3⟩, a3⟩ := hA
  have hsz : w.heap.size ≤ W.heap.size := a1.2.1
  have ba : Below W.heap.size W (W.alloc (.cells #[.slice pa ps.length pc] 36)) := (Below.refl _ _).alloc (Nat.le_refl _) _
  have x2a : GOwn 36 1 xV (W.alloc (.cells #[.slice pa ps.length pc] 36)) w.heap.size (.slice ra rn rc) Rs := x2.below ba
  obtain ⟨v1, w1, e1, o1, g1, b1⟩ := append_gen KDr (W.alloc (.cells #[.slice pa ps.length pc] 36)) w.heap.size (.slice ra rn rc) Rs [((pa, pc, ps) : PX)] (some ⟨W.heap.size, 0, none⟩) 1 1 x2a (GRow.one xV W 36 (pa, pc, ps)) rfl (by simp; omega) (by simp; omega)
  obtain ⟨va, vc, rfl, _, _, _⟩ := o1.row xV_len
  have hrow : ∀ b, (Value.slice ra rn rc).ownBlock = some b → w.heap.size ≤ b := fun b hb => (World.ownsRow.lt (show W.ownsRow w.heap.size 36 1 _ _ _ from x2) b hb).1
  have xb : W.heap[w.heap.size + 1]? ≠ none := by rw [x1]; simp
  have hxlt : w.heap.size + 1 < W.heap.size := (Array.getElem?_eq_some_iff.1 x1).1
  have hne : some (w.heap.size + 1) ≠ (Value.slice ra rn rc).ownBlock := fun e => by
    rcases x2.2 with ⟨e', _⟩ | ⟨g2, cap, cur, e', _, h4, _⟩
    · rw [e'] at e; cases e
    · rw [e'] at e
      injection e with e
      subst e
      rw [x1] at h4
      injection h4 with h4
      injection h4 with _ h4 _
      exact absurd h4 (by decide)
  have hx1 : w1.heap[w.heap.size + 1]? = some (.cells #[.slice ra rn rc, .slice none 0 0, .slice (some ⟨ga, 0, none⟩) n c, .slice none 0 0, .string M] 32 (0, 0)) := by
    rw [g1.block _ (by simp; omega) hne, ba.block _ hxlt]
    exact x1
  have m1 : Md S1 S2 w w1 := (a1.below ba).grown g1 (fun b hb => Or.inr (hrow b hb))
  have hx2 := Go.heap_setCell_same w1 (w.heap.size + 1) 0 _ 32 (.slice va (Rs ++ [(pa, pc, ps)]).length vc) hx1
  refine ⟨va, _, vc, w1, _, ?_, e1, ⟨⟨?_, fun k => ?_⟩, Go.frozen_of_row _ _ _ _ _ hx1⟩, rfl, ⟨m1.set _ _ _ (Or.inr (by omega)), ⟨Ds, d1, ?_, d3⟩, fun i h h' => ?_⟩, ?_, ?_, rfl, ?_⟩
  · rw [cell_of_row _ _ _ _ _ _ x1]; rfl
  · rw [cell_of_row _ _ _ _ _ _ hx1]; rfl
  · have hh : w1.heap[ga]? = W.heap[ga]? := by rw [g1.block _ (by simp; omega) (fun e => by have := hrow ga e.symm; omega), ba.block _ (show ga < W.heap.size by omega)]
    unfold World.cell?
    rw [hh]
  · refine owns_same d2 (fun g hg => ?_)
    injection hg with hg
    subst hg
    rw [Below.heap_setCell _ _ _ _ (show ga ≠ w.heap.size + 1 by omega), g1.block _ (by simp; omega) (fun e => by have := hrow ga e.symm; omega), ba.block _ (show ga < W.heap.size by omega)]
  · refine (a3 i h h').keep (fun g hg => ?_)
    have k1 := (a3 i h h').ne x1 (by decide) g hg
    obtain ⟨g', ps', e, _, hown⟩ := a3 i h h'
    rw [hg] at e
    injection e with e
    injection e with e
    subst e
    have hlt := (World.ownsRow.lt (show W.ownsRow S1 38 2 _ _ _ from hown) g rfl).2
    rw [Below.heap_setCell _ _ _ _ k1, g1.block _ (by simp; omega) (fun e => ?_), ba.block _ hlt]
    exact owns_apart (show W.ownsRow S1 38 2 _ _ _ from hown) (show W.ownsRow w.heap.size 36 1 _ _ _ from x2) (by decide) rfl e.symm
  · exact hx2
  · refine owns_same o1 (fun g hg => Below.heap_setCell _ _ _ _ (fun e => ?_))
    subst e
    rcases o1.2 with ⟨e', _⟩ | ⟨g2, cap, cur, e', _, h4, _⟩
    · rw [e'] at hg; cases hg
    · rw [e'] at hg
      injection hg with hg
      subst hg
      rw [hx1] at h4
      injection h4 with h4
      injection h4 with _ h4 _
      exact absurd h4 (by decide)
  · unfold RBx
    have hlt0 := (Array.getElem?_eq_some_iff.1 x4).1
    rw [Below.heap_setCell _ _ _ _ (show w.heap.size ≠ w.heap.size + 1 by omega), g1.block _ (by simp; omega) (row_ne x2 x4), ba.block _ hlt0]
    exact x4
theorem MkA.below {S1 S2 : Nat} {w : World} {ga n c : Nat} {Os : List PX} {j0 : Nat} {W W' : World} (h : MkA S1 S2 w ga n c Os j0 W) (hb : Below W.heap.size W W') : MkA S1 S2 w ga n c Os j0 W' := by
  obtain ⟨a1, ⟨Ds, d1, d2, d3⟩, a3⟩ := h
  exact ⟨a1.below hb, ⟨Ds, d1, d2.below hb, d3⟩, fun i h h' => (a3 i h h').below hb⟩
theorem MkX.below {w : World} {ga n c : Nat} {M : ByteArray} {ra : Option Addr} {rn rc : Nat} {Rs : List PX} {la : Option Addr} {ln lc : Nat} {W W' : World} (h : MkX w ga n c M ra rn rc Rs la ln lc W) (hb : Below W.heap.size W W') : MkX w ga n c M ra rn rc Rs la ln lc W' :=
  ⟨(hb.block _ (Array.getElem?_eq_some_iff.1 h.1).1).trans h.1, h.2.1.below hb, h.2.2.1, (hb.block _ (Array.getElem?_eq_some_iff.1 h.2.2.2).1).trans h.2.2.2⟩
/-- Where only a block of the parts has turned. -/
theorem MkX.keep {w : World} {ga n c : Nat} {M : ByteArray} {ra : Option Addr} {rn rc : Nat} {Rs : List PX} {la : Option Addr} {ln lc : Nat} {W W' : World} (h : MkX w ga n c M ra rn rc Rs la ln lc W) (hb : ∀ k, w.heap.size ≤ k → k < W.heap.size → W'.heap[k]? = W.heap[k]?) : MkX w ga n c M ra rn rc Rs la ln lc W' := by
  obtain ⟨x1, x2, x3, x4⟩ := h
  refine ⟨(hb _ (by omega) (Array.getElem?_eq_some_iff.1 x1).1).trans x1, owns_same x2 (fun g hg => ?_), x3, (hb _ (Nat.le_refl _) (Array.getElem?_eq_some_iff.1 x4).1).trans x4⟩
  have := World.ownsRow.lt (show W.ownsRow w.heap.size 36 1 _ _ _ from x2) g hg
  exact hb g this.1 this.2
/-- Where only one part's block has turned. -/
theorem MkA.turn {S1 S2 : Nat} {w : World} {ga n c : Nat} {Os : List PX} {j0 j1 : Nat} {W W' : World} (h : MkA S1 S2 w ga n c Os j0 W) (hj : j0 ≤ j1) (g : Nat) (hm : Md S1 S2 w W') (hg : g ≠ ga) (hsz : W.heap.size ≤ W'.heap.size) (hb : ∀ k, k ≠ g → k < W.heap.size → W'.heap[k]? = W.heap[k]?) (hp : ∀ i (hi : i < Os.length), j1 ≤ i → Os[i].1 = some ⟨g, 0, none⟩ → PSh S1 Os[i] W') : MkA S1 S2 w ga n c Os j1 W' := by
  obtain ⟨a1, ⟨Ds, d1, d2, d3⟩, a3⟩ := h
  refine ⟨hm, ⟨Ds, d1, owns_same d2 (fun b hb' => ?_), d3⟩, fun i hi hji => ?_⟩
  · injection hb' with hb'
    subst hb'
    exact hb ga (Ne.symm hg) (World.ownsRow.lt (show W.ownsRow S1 36 1 _ _ _ from d2) ga rfl).2
  · by_cases e : Os[i].1 = some ⟨g, 0, none⟩
    · exact hp i hi hji e
    · have h3 := a3 i hi (by omega)
      refine h3.keep (fun g' hg' => ?_)
      obtain ⟨g2, ps, e2, _, hown⟩ := h3
      rw [hg'] at e2
      injection e2 with e2
      injection e2 with e2
      subst e2
      exact hb g' (fun e3 => e (by rw [hg', e3])) (World.ownsRow.lt (show W.ownsRow S1 38 2 _ _ _ from hown) g' rfl).2
theorem MkA.part {S1 S2 : Nat} {w : World} {ga n c : Nat} {Os : List PX} {j0 : Nat} {W : World} (h : MkA S1 S2 w ga n c Os j0 W) (i : Nat) (hi : i < Os.length) (hj : j0 ≤ i) : ∃ g, Os[i].1 = some ⟨g, 0, none⟩ ∧ g ≠ ga ∧ S1 ≤ g ∧ g < W.heap.size := by
  obtain ⟨a1, ⟨Ds, d1, d2, d3⟩, a3⟩ := h
  have h3 := a3 i hi hj
  obtain ⟨g, ps, e, _, hown⟩ := h3
  have hlt := World.ownsRow.lt (show W.ownsRow S1 38 2 _ _ _ from hown) g rfl
  refine ⟨g, e, fun e2 => ?_, hlt.1, hlt.2⟩
  subst e2
  exact owns_apart (show W.ownsRow S1 38 2 _ _ _ from hown) (show W.ownsRow S1 36 1 _ _ _ from d2) (by decide) rfl rfl
/-- No two parts lie in one block. -/
def Dst (Os : List PX) : Prop := ∀ i j (hi : i < Os.length) (hj : j < Os.length), i < j → Os[i].1 ≠ Os[j].1
theorem Dst.same {Os : List PX} (h : Dst Os) (i j : Nat) (hi : i < Os.length) (hj : j < Os.length) (e : Os[i].1 = Os[j].1) : i = j := by
  rcases Nat.lt_trichotomy i j with h1 | h1 | h1
  · exact absurd e (h i j hi hj h1)
  · exact h1
  · exact absurd e.symm (h j i hj hi h1)
/-- One pair written into a part. -/
theorem mk_put {S1 S2 : Nat} {w : World} {ga n c : Nat} {Os : List PX} {M : ByteArray} {ra : Option Addr} {rn rc : Nat} {Rs : List PX} {la : Option Addr} {ln lc : Nat} {W : World} (hA : MkA S1 S2 w ga n c Os 0 W) (hX : MkX w ga n c M ra rn rc Rs la ln lc W) (hS : S2 ≤ w.heap.size) (i : Nat) (hi : i < Os.length) (g : Nat) (hg : Os[i].1 = some ⟨g, 0, none⟩) (hgS : g < S2) (j : Nat) (hj : j < Os[i].2.2.length + 1) (hd : Dst Os) (s t : ByteArray) :
    (∃ u v, W.cell? ⟨g, j * 2, none⟩ = some u ∧ W.cell? ⟨g, j * 2 + 1, none⟩ = some v) ∧ W.frozen? ⟨g, j * 2, none⟩ = false ∧ W.frozen? ⟨g, j * 2 + 1, none⟩ = false ∧ ∃ W2, (W.setCell ⟨g, j * 2, none⟩ (.string s)).setCell ⟨g, j * 2 + 1, none⟩ (.string t) = W2 ∧ MkA S1 S2 w ga n c Os 0 W2 ∧ MkX w ga n c M ra rn rc Rs la ln lc W2 := by
  have hput : ∀ i' (hi' : i' < Os.length), Os[i'].1 = some ⟨g, 0, none⟩ → j < Os[i'].2.2.length + 1 → PSh S1 Os[i'] ((W.setCell ⟨g, j * 2, none⟩ (.string s)).setCell ⟨g, j * 2 + 1, none⟩ (.string t)) := fun i' hi' e hj' => by
    have := ((hA.2.2 i' hi' (Nat.zero_le _)).put g e j hj' s.data.toList t.data.toList).1
    rw [S_of, S_of] at this
    exact this
  obtain ⟨g', e', hne, h1, h2⟩ := hA.part i hi (Nat.zero_le _)
  rw [hg] at e'
  injection e' with e'
  injection e' with e'
  subst e'
  obtain ⟨_, p2, p3, p4⟩ := (hA.2.2 i hi (Nat.zero_le _)).put g hg j hj s.data.toList t.data.toList
  refine ⟨p2, p3, p4, _, rfl, ?_, ?_⟩
  · refine hA.turn (Nat.le_refl _) g ((hA.1.set _ _ _ (Or.inl ⟨h1, hgS⟩)).set _ _ _ (Or.inl ⟨h1, hgS⟩)) hne (by simp) (fun k hk hk' => ?_) (fun i' hi' _ e => ?_)
    · rw [Below.heap_setCell _ _ _ _ hk, Below.heap_setCell _ _ _ _ hk]
    · have e3 : i' = i := hd.same i' i hi' hi (by rw [e, hg])
      subst e3
      exact hput i' hi' e hj
  · refine hX.keep (fun k hk hk' => ?_)
    rw [Below.heap_setCell _ _ _ _ (show k ≠ g by omega), Below.heap_setCell _ _ _ _ (show k ≠ g by omega)]
theorem GOwn.short {α : Type} {t : TypeId} {k : Nat} {V : α → List Value} (hV : ∀ x, (V x).length = k) {W : World} {B g n m c : Nat} {l : List α} (h : GOwn t k V W B (.slice (some ⟨g, 0, none⟩) n c) l) (hl : l.length = n) (hm : m ≤ n) : GOwn t k V W B (.slice (some ⟨g, 0, none⟩) m c) (l.take m) := by
  subst hl
  have e : (l.take m).length = m := by rw [List.length_take]; omega
  have e2 : (l.take m).flatMap V = (l.flatMap V).take (m * k) := by
    have h1 : l.flatMap V = (l.take m).flatMap V ++ (l.drop m).flatMap V := by rw [← List.flatMap_append, List.take_append_drop]
    have hl1 : ((l.take m).flatMap V).length = m * k := by rw [flatV_len V k hV, e]
    rw [h1]
    exact (List.take_left' hl1).symm
  unfold GOwn
  rw [e, e2]
  have hle : m * k ≤ l.length * k := Nat.mul_le_mul_right k hm
  rcases h.2 with ⟨e, _⟩ | ⟨g2, cap, cur, e, k3, k4, k5, k6, k7, k8⟩
  · cases e
  · injection e with e1 _ e9
    injection e1 with e1
    injection e1 with e1
    subst e1 e9
    refine ⟨by rw [List.length_take, flatV_len V k hV]; omega, Or.inr ⟨g, c, cur, rfl, k3, k4, by omega, k6, k7, ?_⟩⟩
    rw [← k8, List.take_take, Nat.min_eq_left hle]
/-- The list of the longer ones. -/
def MkL (S3 : Nat) (la : Option Addr) (ln lc : Nat) (Ls : List PX) (W : World) : Prop := GOwn 36 1 xV W S3 (.slice la ln lc) Ls ∧ ln = Ls.length
theorem MkL.below {S3 : Nat} {la : Option Addr} {ln lc : Nat} {Ls : List PX} {W W' : World} (h : MkL S3 la ln lc Ls W) (hb : Below W.heap.size W W') : MkL S3 la ln lc Ls W' := ⟨h.1.below hb, h.2⟩
theorem MkL.keep {S3 : Nat} {la : Option Addr} {ln lc : Nat} {Ls : List PX} {W W' : World} (h : MkL S3 la ln lc Ls W) (hb : ∀ k, S3 ≤ k → k < W.heap.size → W'.heap[k]? = W.heap[k]?) : MkL S3 la ln lc Ls W' :=
  ⟨owns_same h.1 (fun g hg => by have := World.ownsRow.lt (show W.ownsRow S3 36 1 _ _ _ from h.1) g hg; exact hb g this.1 this.2), h.2⟩
/-- One pair put behind a part. -/
theorem mk_longer {S1 S2 S3 : Nat} {w : World} {ga n c : Nat} {Os : List PX} {M : ByteArray} {ra : Option Addr} {rn rc : Nat} {Rs : List PX} {la : Option Addr} {ln lc : Nat} {Ls : List PX} {W : World} (i : Nat) (hA : MkA S1 S2 w ga n c Os i W) (hX : MkX w ga n c M ra rn rc Rs la ln lc W) (hL : MkL S3 la ln lc Ls W) (hS : S2 ≤ w.heap.size) (hS3 : w.heap.size ≤ S3) (hi : i < Os.length) (g m pc : Nat) (hg : Os[i] = (some ⟨g, 0, none⟩, pc, Os[i].2.2)) (hm : Os[i].2.2.length = m) (hml : m ≤ 4398046510976) (hgS : g < S2) (hd : Dst Os) (s t : ByteArray) :
    ∃ va vc w1, ∃ ps' : List PR, (Builtin.append_ #[36, 36] 36 #[.slice (some ⟨g, 0, none⟩) m pc, .slice (some ⟨W.heap.size, 0, none⟩) 1 1]).run Try.prog (W.alloc (.cells #[.string s, .string t] 38)) = .ok (.slice va (m + 1) vc) w1 ∧ List.length ps' = m + 1 ∧ MkA S1 S2 w ga n c Os (i + 1) w1 ∧ MkX w ga n c M ra rn rc Rs la ln lc w1 ∧ MkL S3 la ln lc Ls w1 ∧ W.heap.size ≤ w1.heap.size := by
  obtain ⟨g', e', hne, h1, h2⟩ := hA.part i hi (Nat.le_refl _)
  have hga : Os[i].1 = some ⟨g, 0, none⟩ := by rw [hg]
  rw [hga] at e'
  injection e' with e'
  injection e' with e'
  subst e'
  obtain ⟨g2, ps, k1, k2, k3⟩ := hA.2.2 i hi (Nat.le_refl _)
  rw [hga] at k1
  injection k1 with k1
  injection k1 with k1
  subst k1
  have hpc : Os[i].2.1 = pc := by rw [hg]
  rw [hm, hpc] at k3
  rw [hm] at k2
  have k4 := k3.short pV_len k2 (Nat.le_succ m)
  have ba : Below W.heap.size W (W.alloc (.cells #[.string s, .string t] 38)) := (Below.refl _ _).alloc (Nat.le_refl _) _
  have hone : GRow 2 pV (W.alloc (.cells #[.string s, .string t] 38)) (some ⟨W.heap.size, 0, none⟩) [(s.data.toList, t.data.toList)] := by
    have := GRow.one (k := 2) pV W 38 (s.data.toList, t.data.toList)
    simp only [pV, S_of] at this
    exact this
  have htk : (ps.take m).length = m := by rw [List.length_take, k2]; omega
  have hSW : S1 ≤ W.heap.size := by have := hA.1.2.1; omega
  obtain ⟨v1, w1, e1, o1, g1, b1⟩ := append_gen KDp (W.alloc (.cells #[.string s, .string t] 38)) S1 (.slice (some ⟨g, 0, none⟩) m pc) (ps.take m) [(s.data.toList, t.data.toList)] (some ⟨W.heap.size, 0, none⟩) 1 1 (k4.below ba) hone rfl (by simp; omega) (by rw [htk]; simp; omega)
  obtain ⟨va, vc, rfl, _, _, _⟩ := o1.row pV_len
  have hl : (ps.take m ++ [(s.data.toList, t.data.toList)]).length = m + 1 := by rw [List.length_append, htk]; rfl
  rw [hl] at e1
  have hbk : ∀ k, k ≠ g → k < W.heap.size → w1.heap[k]? = W.heap[k]? := fun k hk hk' => by
    rw [g1.block k (by simp; omega) (fun e => by injection e with e; exact hk e), ba.block k hk']
  have hMd : Md S1 S2 w w1 := (hA.1.below ba).grown g1 (fun b hb => by injection hb with hb; subst hb; exact Or.inl ⟨h1, hgS⟩)
  refine ⟨va, vc, w1, _, e1, hl, ?_, ?_, ?_, by have := g1.size; simp at this; omega⟩
  · refine hA.turn (Nat.le_succ _) g hMd hne (by have := g1.size; simp at this; omega) hbk (fun i' hi' hii e => ?_)
    have := hd.same i' i hi' hi (by rw [e, hga])
    omega
  · exact hX.keep (fun k hk hk' => hbk k (by omega) hk')
  · exact hL.keep (fun k hk hk' => hbk k (by omega) hk')
/-- It put into the list of the longer ones. -/
theorem mk_long2 {S1 S2 S3 : Nat} {w : World} {ga n c : Nat} {Os : List PX} {M : ByteArray} {ra : Option Addr} {rn rc : Nat} {Rs : List PX} {la : Option Addr} {ln lc : Nat} {Ls : List PX} {W : World} {i : Nat} (hA : MkA S1 S2 w ga n c Os i W) (hX : MkX w ga n c M ra rn rc Rs la ln lc W) (hL : MkL S3 la ln lc Ls W) (hR3 : ∀ b, (Value.slice ra rn rc).ownBlock = some b → b < S3) (hS : S2 ≤ w.heap.size) (hS3 : w.heap.size + 2 ≤ S3) (hS3W : S3 ≤ W.heap.size) (hga : ga < S2) (hR : Ls.length ≤ 5864062014634) (pa : Option Addr) (pc : Nat) (ps : List PR) :
    ∃ va vn vc w1 u W2, W.cell? ⟨w.heap.size + 1, 1, none⟩ = some (.slice la ln lc) ∧
      (Builtin.append_ #[22, 22] 22 #[.slice la ln lc, .slice (some ⟨W.heap.size, 0, none⟩) 1 1]).run Try.prog (W.alloc (.cells #[.slice pa ps.length pc] 36)) = .ok (.slice va vn vc) w1 ∧
      (w1.cell? ⟨w.heap.size + 1, 1, none⟩ = some u ∧ w1.frozen? ⟨w.heap.size + 1, 1, none⟩ = false) ∧ w1.setCell ⟨w.heap.size + 1, 1, none⟩ (.slice va vn vc) = W2 ∧ MkA S1 S2 w ga n c Os i W2 ∧ MkX w ga n c M ra rn rc Rs va vn vc W2 ∧ MkL S3 va vn vc (Ls ++ [(pa, pc, ps)]) W2 ∧ W.heap.size ≤ W2.heap.size := by
  obtain ⟨x1, x2, x3, x4⟩ := hX
  have hAm := hA.1
  have hsz : w.heap.size ≤ W.heap.size := hAm.2.1
  have ba : Below W.heap.size W (W.alloc (.cells #[.slice pa ps.length pc] 36)) := (Below.refl _ _).alloc (Nat.le_refl _) _
  obtain ⟨v1, w1, e1, o1, g1, b1⟩ := append_gen KDr (W.alloc (.cells #[.slice pa ps.length pc] 36)) S3 (.slice la ln lc) Ls [((pa, pc, ps) : PX)] (some ⟨W.heap.size, 0, none⟩) 1 1 (hL.1.below ba) (GRow.one xV W 36 (pa, pc, ps)) rfl (by simp; omega) (by simp; omega)
  obtain ⟨va, vc, rfl, _, _, _⟩ := o1.row xV_len
  have hrow : ∀ b, (Value.slice la ln lc).ownBlock = some b → S3 ≤ b := fun b hb => (World.ownsRow.lt (show W.ownsRow S3 36 1 _ _ _ from hL.1) b hb).1
  have hxlt : w.heap.size + 1 < W.heap.size := (Array.getElem?_eq_some_iff.1 x1).1
  have hbk : ∀ k, k < S3 → w1.heap[k]? = W.heap[k]? := fun k hk => by
    rw [g1.block k (by simp; omega) (fun e => by have := hrow k e.symm; omega), ba.block k (by omega)]
  have hx1 := (hbk _ (by omega : w.heap.size + 1 < S3)).trans x1
  have m1 : Md S1 S2 w w1 := (hAm.below ba).grown g1 (fun b hb => Or.inr (by have := hrow b hb; omega))
  have hx2 := Go.heap_setCell_same w1 (w.heap.size + 1) 1 _ 32 (.slice va (Ls ++ [(pa, pc, ps)]).length vc) hx1
  have hA1 : MkA S1 S2 w ga n c Os i (w1.setCell ⟨w.heap.size + 1, 1, none⟩ (.slice va (Ls ++ [(pa, pc, ps)]).length vc)) := by
    obtain ⟨a1, ⟨Ds, d1, d2, d3⟩, a3⟩ := hA
    refine ⟨m1.set _ _ _ (Or.inr (by omega)), ⟨Ds, d1, owns_same d2 (fun g hg => ?_), d3⟩, fun k h h' => ?_⟩
    · injection hg with hg
      subst hg
      rw [Below.heap_setCell _ _ _ _ (show ga ≠ w.heap.size + 1 by omega), hbk _ (show ga < S3 by omega)]
    · refine (a3 k h h').keep (fun g hg => ?_)
      have k1 := (a3 k h h').ne x1 (by decide) g hg
      obtain ⟨g', ps', e, _, hown⟩ := a3 k h h'
      rw [hg] at e
      injection e with e
      injection e with e
      subst e
      have hlt := (World.ownsRow.lt (show W.ownsRow S1 38 2 _ _ _ from hown) g rfl).2
      rw [Below.heap_setCell _ _ _ _ k1, g1.block _ (by simp; omega) (fun e => ?_), ba.block _ hlt]
      exact owns_apart (show W.ownsRow S1 38 2 _ _ _ from hown) (show W.ownsRow S3 36 1 _ _ _ from hL.1) (by decide) rfl e.symm
  refine ⟨va, _, vc, w1, .slice la ln lc, _, ?_, e1, ⟨?_, Go.frozen_of_row _ _ _ _ _ hx1⟩, rfl, hA1, ⟨hx2, ?_, x3, ?_⟩, ⟨?_, rfl⟩, ?_⟩
  · rw [cell_of_row _ _ _ _ _ _ x1]; rfl
  · rw [cell_of_row _ _ _ _ _ _ hx1]; rfl
  · refine owns_same x2 (fun b hb => ?_)
    have hb3 := hR3 b hb
    have hne : b ≠ w.heap.size + 1 := fun e => by
      subst e
      rcases x2.2 with ⟨e', _⟩ | ⟨g2, cap, cur, e', _, h4, _⟩
      · rw [e'] at hb; cases hb
      · rw [e'] at hb
        injection hb with hb
        subst hb
        rw [x1] at h4
        injection h4 with h4
        injection h4 with _ h4 _
        exact absurd h4 (by decide)
    rw [Below.heap_setCell _ _ _ _ hne, hbk b hb3]
  · unfold RBx
    rw [Below.heap_setCell _ _ _ _ (show w.heap.size ≠ w.heap.size + 1 by omega), hbk _ (by omega)]
    exact x4
  · refine owns_same o1 (fun g hg => Below.heap_setCell _ _ _ _ (fun e => ?_))
    have := (World.ownsRow.lt (show w1.ownsRow S3 36 1 _ _ _ from o1) g hg).1
    have e' : g = w.heap.size + 1 := e
    omega
  · have := g1.size
    simp at this ⊢
    omega
/-- The last loop's state. -/
def MkB (S1 S2 : Nat) (w : World) (ga n c : Nat) (M : ByteArray) (W : World) : Prop := Md S1 S2 w W ∧ (∃ Ds, Ds.length = n + 1 ∧ GOwn 36 1 xV W S1 (.slice (some ⟨ga, 0, none⟩) (n + 1) c) Ds) ∧ ∃ x0 x1 x2 : Option Addr × Nat × Nat, W.heap[w.heap.size + 1]? = some (.cells #[.slice x0.1 x0.2.1 x0.2.2, .slice x1.1 x1.2.1 x1.2.2, .slice x2.1 x2.2.1 x2.2.2, .slice none 0 0, .string M] 32 (0, 0)) ∧ RBx w W
theorem mk_clear {S1 S2 : Nat} {w : World} {ga n c : Nat} {M : ByteArray} {W : World} (h : MkB S1 S2 w ga n c M W) (hS : S2 ≤ w.heap.size) (hga : ga < S2) (i : Nat) (hi : i < n) (o : Obj) :
    ∃ u W2, ((W.alloc o).cell? ⟨ga, i, none⟩ = some u ∧ (W.alloc o).frozen? ⟨ga, i, none⟩ = false) ∧ (W.alloc o).setCell ⟨ga, i, none⟩ (.slice (some ⟨W.heap.size, 0, none⟩) 1 1) = W2 ∧ MkB S1 S2 w ga n c M W2 := by
  obtain ⟨a1, ⟨Ds, d1, d2⟩, x0, x1, x2, hx, hx0⟩ := h
  have ba : Below W.heap.size W (W.alloc o) := (Below.refl _ _).alloc (Nat.le_refl _) _
  have d2' : GOwn 36 1 xV (W.alloc o) S1 (.slice (some ⟨ga, 0, none⟩) Ds.length c) Ds := by rw [d1]; exact d2.below ba
  obtain ⟨u1, u2⟩ := own_cell d2' i (by omega)
  have hs := own_set d2' i (by omega) (some ⟨W.heap.size, 0, none⟩, 1, [([], [])])
  rw [d1] at hs
  have hlt := World.ownsRow.lt (show W.ownsRow S1 36 1 _ _ _ from d2) ga rfl
  refine ⟨_, _, ⟨u1, u2⟩, rfl, (a1.below ba).set _ _ _ (Or.inl ⟨hlt.1, hga⟩), ⟨_, by rw [List.length_set]; exact d1, hs⟩, x0, x1, x2, ?_, ?_⟩
  · rw [Below.heap_setCell _ _ _ _ (show w.heap.size + 1 ≠ ga by omega), ba.block _ (Array.getElem?_eq_some_iff.1 hx).1]
    exact hx
  · unfold RBx
    rw [Below.heap_setCell _ _ _ _ (show w.heap.size ≠ ga by omega), ba.block _ (Array.getElem?_eq_some_iff.1 hx0).1]
    exact hx0
theorem mk_last {S1 S2 : Nat} {w : World} {ga n c : Nat} {M : ByteArray} {W : World} (h : MkB S1 S2 w ga n c M W) (hS : S2 ≤ w.heap.size) (hga : ga < S2) (hn : n ≤ 5864062014634) :
    ∃ W1 va vn vc w1 u W2, W.alloc (.cells #[.string M, .string ⟨#[]⟩] 38) = W1 ∧
      (Builtin.append_ #[23, 23] 23 #[.slice (some ⟨ga, 0, none⟩) n c, .slice (some ⟨W1.heap.size, 0, none⟩) 1 1]).run Try.prog (W1.alloc (.cells #[.slice (some ⟨W.heap.size, 0, none⟩) 1 1] 36)) = .ok (.slice va vn vc) w1 ∧
      (w1.cell? ⟨w.heap.size + 1, 3, none⟩ = some u ∧ w1.frozen? ⟨w.heap.size + 1, 3, none⟩ = false) ∧ w1.setCell ⟨w.heap.size + 1, 3, none⟩ (.slice va vn vc) = W2 ∧ Md S1 S2 w W2 ∧ ∃ x0 x1 x2 : Option Addr × Nat × Nat, W2.heap[w.heap.size + 1]? = some (.cells #[.slice x0.1 x0.2.1 x0.2.2, .slice x1.1 x1.2.1 x1.2.2, .slice x2.1 x2.2.1 x2.2.2, .slice va vn vc, .string M] 32 (0, 0)) ∧ RBx w W2 := by
  obtain ⟨a1, ⟨Ds, d1, d2⟩, x0, x1, x2, hx, hx0⟩ := h
  obtain ⟨W1, hW1⟩ : ∃ W1, W.alloc (.cells #[.string M, .string ⟨#[]⟩] 38) = W1 := ⟨_, rfl⟩
  have b01 : Below W.heap.size W W1 := by rw [← hW1]; exact (Below.refl _ _).alloc (Nat.le_refl _) _
  have ba : Below W1.heap.size W1 (W1.alloc (.cells #[.slice (some ⟨W.heap.size, 0, none⟩) 1 1] 36)) := (Below.refl _ _).alloc (Nat.le_refl _) _
  have hlt := World.ownsRow.lt (show W.ownsRow S1 36 1 _ _ _ from d2) ga rfl
  have k4 := ((d2.short xV_len d1 (Nat.le_succ n)).below b01).below ba
  have htk : (Ds.take n).length = n := by rw [List.length_take, d1]; omega
  obtain ⟨v1, w1, e1, o1, g1, b1⟩ := append_gen KDx (W1.alloc (.cells #[.slice (some ⟨W.heap.size, 0, none⟩) 1 1] 36)) S1 (.slice (some ⟨ga, 0, none⟩) n c) (Ds.take n) [((some ⟨W.heap.size, 0, none⟩, 1, [([], [])]) : PX)] (some ⟨W1.heap.size, 0, none⟩) 1 1 k4 (GRow.one xV W1 36 (some ⟨W.heap.size, 0, none⟩, 1, [([], [])])) rfl (by have := b01.size; simp; omega) (by rw [htk]; simp; omega)
  obtain ⟨va, vc, rfl, _, _, _⟩ := o1.row xV_len
  have hxl := (Array.getElem?_eq_some_iff.1 hx).1
  have hx1 : w1.heap[w.heap.size + 1]? = some (.cells #[.slice x0.1 x0.2.1 x0.2.2, .slice x1.1 x1.2.1 x1.2.2, .slice x2.1 x2.2.1 x2.2.2, .slice none 0 0, .string M] 32 (0, 0)) := by
    rw [g1.block _ (by have := b01.size; simp; omega) (fun e => by injection e with e; have e' : w.heap.size + 1 = ga := e; omega), ba.block _ (by have := b01.size; omega), b01.block _ hxl]
    exact hx
  have hx2 := Go.heap_setCell_same w1 (w.heap.size + 1) 3 _ 32 (.slice va (Ds.take n ++ [((some ⟨W.heap.size, 0, none⟩, 1, [([], [])]) : PX)]).length vc) hx1
  refine ⟨W1, va, _, vc, w1, .slice none 0 0, _, hW1, e1, ⟨?_, Go.frozen_of_row _ _ _ _ _ hx1⟩, rfl, ?_, x0, x1, x2, hx2, ?_⟩
  · rw [cell_of_row _ _ _ _ _ _ hx1]; rfl
  · exact ((((a1.below b01).below ba).grown g1 (fun b hb => by injection hb with hb; subst hb; exact Or.inl ⟨hlt.1, hga⟩))).set _ _ _ (Or.inr (by omega))
  · unfold RBx
    have hl0 := (Array.getElem?_eq_some_iff.1 hx0).1
    rw [Below.heap_setCell _ _ _ _ (show w.heap.size ≠ w.heap.size + 1 by omega), g1.block _ (by have := b01.size; simp; omega) (fun e => by injection e with e; have e' : w.heap.size = ga := e; omega), ba.block _ (by have := b01.size; omega), b01.block _ hl0]
    exact hx0
theorem mkx_cells {w : World} {ga n c : Nat} {M : ByteArray} {ra : Option Addr} {rn rc : Nat} {Rs : List PX} {la : Option Addr} {ln lc : Nat} {W : World} (h : MkX w ga n c M ra rn rc Rs la ln lc W) (i : Nat) (hi : i < Rs.length) : ∃ rb, ra = some ⟨rb, 0, none⟩ ∧ W.cell? ⟨w.heap.size + 1, 0, none⟩ = some (.slice ra rn rc) ∧ W.cell? ⟨rb, i, none⟩ = some (.slice Rs[i].1 Rs[i].2.2.length Rs[i].2.1) := by
  obtain ⟨x1, x2, rfl, x4⟩ := h
  rcases owns_form x2 with ⟨_, h0⟩ | ⟨g, cap, e, _⟩
  · omega
  · injection e with e1 _ _
    subst e1
    refine ⟨g, rfl, ?_, (own_cell x2 i hi).1⟩
    rw [cell_of_row _ _ _ _ _ _ x1]
    rfl
end Du
end Go.Proofs.Ytkpepbcoeoalkaa
