import Derived.Test.YtndbbfbihheagaaDoorTyQ
import Derived.Test.YtndbbfbihheagaaDoorAtSame
import Derived.Test.YtndbbfbihheagaaDoorRgN
namespace Go.Proofs.YtndbbfbihheagaaDoor
namespace Ty
open Go.RowKit Go.Shelf
open Ak (KE EK kb OwnB)
set_option linter.unusedVariables false
set_option maxRecDepth 100000

theorem same_al {W : World} {B : Nat} {i : Fin 62} {al al' : Value} (hG : GT (i, al) B W) (hR : RowIs W 0 i (agT (i, al'))) : SameAl W al al' := by
  obtain ⟨al2, e, h⟩ := hR
  have e2 : al' = al2 := by
    injection e with e
    have := congrArg (fun a => a[1]?) e
    simpa using this
  subst e2
  obtain ⟨hO, hn⟩ := hG
  unfold aliL at hO
  rcases h with ⟨he, rfl⟩ | ⟨he, g, c, _, rfl, hc⟩
  · exact Or.inl ⟨hn he, rfl⟩
  · simp only [he, if_false] at hO
    rcases ownS_form hO with ⟨_, h1⟩ | ⟨g', cap, h1⟩
    · cases h1
    · have h1' : al = .slice (some ⟨g', 0, none⟩) 1 cap := h1
      subst h1'
      have hc' := ownS_cell hO 0 (by simp)
      refine Or.inr ⟨g', cap, g, c, (rowL i).2.1, rfl, rfl, ?_, hc⟩
      rw [hc']
      simp [S_of]
/-- The types of the cells that a round may turn. -/
def TT (t : TypeId) : Bool := t == 9 || t == 28 || t == 27 || t == 3
def ChT (M : Nat) (W W' : World) : Prop := W'.os = W.os ∧ W'.tape = W.tape ∧ W'.output = W.output ∧ W.heap.size ≤ W'.heap.size ∧ ∀ k o, W.heap[k]? = some o → W'.heap[k]? = some o ∨ (M ≤ k ∧ ∃ cs t fz, o = .cells cs t fz ∧ TT t = true)
theorem ChT.trans {M : Nat} {A B C : World} (h : ChT M A B) (k : ChT M B C) : ChT M A C := by
  obtain ⟨a1, a2, a3, a4, a5⟩ := h
  obtain ⟨b1, b2, b3, b4, b5⟩ := k
  refine ⟨b1.trans a1, b2.trans a2, b3.trans a3, Nat.le_trans a4 b4, fun i o hi => ?_⟩
  rcases a5 i o hi with q | q
  · exact b5 i o q
  · exact Or.inr q
theorem ChT.of_below {M : Nat} {W W' : World} (h : Below W.heap.size W W') : ChT M W W' := ⟨h.os, h.tape, h.output, h.size, fun k o hk => Or.inl ((h.block k (Array.getElem?_eq_some_iff.1 hk).1).trans hk)⟩
theorem ChT.of_ch {M : Nat} {ks : Nat → Prop} {W W' : World} (h : Ak.Ch ks W W') (hk : ∀ g o, ks g → W.heap[g]? = some o → M ≤ g ∧ ∃ cs t fz, o = .cells cs t fz ∧ TT t = true) : ChT M W W' := by
  refine ⟨h.1, h.2.1, h.2.2.1, h.2.2.2.1, fun g o hg => ?_⟩
  by_cases q : ks g
  · exact Or.inr (hk g o q hg)
  · exact Or.inl ((h.2.2.2.2 g (Array.getElem?_eq_some_iff.1 hg).1 q).trans hg)
theorem ChT.box {M b : Nat} {t : TypeId} {v v' : Value} {W : World} (h : Boxed W b t v) (ht : TT t = true) (hM : M ≤ b) : ChT M W (W.setCell ⟨b, 0, none⟩ v') := by
  refine ⟨rfl, rfl, rfl, by rw [World.size_setCell]; exact Nat.le_refl _, fun g o hg => ?_⟩
  by_cases e : g = b
  · subst e
    unfold Boxed at h
    rw [hg] at h
    injection h with h
    subst h
    exact Or.inr ⟨hM, _, _, _, rfl, ht⟩
  · exact Or.inl ((Below.heap_setCell _ _ _ _ e).trans hg)
theorem ChT.below {M : Nat} {W W' : World} (h : ChT M W W') (hM : M ≤ W.heap.size) : Below M W W' := by
  refine ⟨h.1, h.2.1, h.2.2.1, h.2.2.2.1, fun k hk => ?_⟩
  have hlt : k < W.heap.size := by omega
  rcases h.2.2.2.2 k W.heap[k] (Array.getElem?_eq_getElem hlt) with q | ⟨q, _⟩
  · rw [q, Array.getElem?_eq_getElem hlt]
  · omega
theorem ChT.keeps {M B : Nat} {W W' : World} (h : ChT M W W') : KeepsFrom B W W' := ⟨h.2.2.2.1, fun k o _ hk hc => by
  rcases h.2.2.2.2 k o hk with q | ⟨_, cs, t, fz, rfl, _⟩
  · exact q
  · cases hc⟩
theorem ChT.kp {M n₀ : Nat} {W W' : World} (h : ChT M W W') (hM : M ≤ W.heap.size) (hn : n₀ ≤ M) : KpB n₀ W W' := ⟨(h.below hM).mono hn, fun k cs fz hk => by
  rcases h.2.2.2.2 k _ hk with q | ⟨_, cs', t, fz', e, ht⟩
  · exact q
  · injection e with e1 e2
    subst e2
    exact absurd ht (by decide)⟩
theorem ChT.loop {M l : Nat} {r : Loop} {W W' : World} (h : ChT M W W') (hl : W.heap[l]? = some (.loop r)) : W'.heap[l]? = some (.loop r) := by
  rcases h.2.2.2.2 l _ hl with q | ⟨_, cs, t, fz, e, _⟩
  · exact q
  · cases e
/-- The book of what is kept. -/
structure KB (W : World) (B bb nb : Nat) (bv : Value) (bs : List KE) : Prop where
  book : OwnB W B bv (kb bs)
  all : ∀ x ∈ bs, EK W x ∧ ∀ g, x.1.ownBlock = some g → bv.ownBlock ≠ some g ∧ g ≠ bb ∧ g ≠ nb
  out : ∀ g, bv.ownBlock = some g → g ≠ bb ∧ g ≠ nb
  mrk : ∀ i (h : i < bs.length), bs[i].2.1 = mk (i / 2)
theorem KB.ch {ks : Nat → Prop} {W W' : World} {B bb nb : Nat} {bv : Value} {bs : List KE} (h : KB W B bb nb bv bs) (hc : Ak.Ch ks W W') (h1 : ∀ g, bv.ownBlock = some g → ¬ ks g) (h3 : ∀ x ∈ bs, ∀ g, x.1.ownBlock = some g → ¬ ks g) : KB W' B bb nb bv bs :=
  ⟨Ak.ownB_of h.book (fun g hg => hc.2.2.2.2 g (Ak.ownB_lt h.book hg).2 (h1 g hg)), fun x hx => ⟨(h.all x hx).1.ch hc (h3 x hx), (h.all x hx).2⟩, h.out, h.mrk⟩
theorem KB.below {W W' : World} {B bb nb : Nat} {bv : Value} {bs : List KE} (h : KB W B bb nb bv bs) (hb : Below W.heap.size W W') : KB W' B bb nb bv bs := h.ch (ks := fun _ => False) (Ak.Ch.of_below hb) (fun _ _ q => q) (fun _ _ _ _ q => q)
theorem ownB_cells {W : World} {B g : Nat} {v : Value} {l : List Value} (h : OwnB W B v l) (hg : v.ownBlock = some g) : ∃ cs, W.heap[g]? = some (.cells cs 28 (0, 0)) := by
  rcases h with ⟨_, ⟨rfl, _⟩ | ⟨g', cap, cur, rfl, _, h4, _⟩⟩
  · cases hg
  · have e : g' = g := by simpa [Value.ownBlock] using hg
    subst e
    exact ⟨cur, h4⟩
theorem ownS_cells {W : World} {B g : Nat} {v : Value} {l : List (List UInt8)} (h : OwnS W B v l) (hg : v.ownBlock = some g) : ∃ cs, W.heap[g]? = some (.cells cs 9 (0, 0)) := by
  rcases h with ⟨_, ⟨rfl, _⟩ | ⟨g', cap, cur, rfl, _, h4, _⟩⟩
  · cases hg
  · have e : g' = g := by simpa [Value.ownBlock] using hg
    subst e
    exact ⟨cur, h4⟩
theorem row_ne {W : World} {g : Nat} {row : Option Nat} {cs : Array Value} {t : TypeId} {fz : Nat × Nat} (h : W.heap[g]? = some (.cells cs t fz)) (hr : ∀ r, row = some r → ∃ o : Obj, W.heap[r]? = some o ∧ o.isCells = false) : some g ≠ row := fun e => by
  obtain ⟨o, ho, hc⟩ := hr g e.symm
  rw [h] at ho
  injection ho with ho
  subst ho
  cases hc
theorem EK.own {W W' : World} {x : KE} {row : Option Nat} (h : EK W x) (hg : W.grownBy W' row) (hr : ∀ r, row = some r → ∃ o : Obj, W.heap[r]? = some o ∧ o.isCells = false) : EK W' x := by
  obtain ⟨⟨a, c, e, r⟩, h1, h2⟩ := h
  refine ⟨⟨a, c, e, fun i hi => ?_⟩, fun g hg' => Nat.lt_of_lt_of_le (h1 g hg') hg.size, h2⟩
  obtain ⟨b, off, e', hc⟩ := r i hi
  exact ⟨b, off, e', cell_kept hc hg hr⟩
theorem KB.own {W W' : World} {B bb nb : Nat} {bv : Value} {bs : List KE} {row : Option Nat} (h : KB W B bb nb bv bs) (hg : W.grownBy W' row) (hr : ∀ r, row = some r → ∃ o : Obj, W.heap[r]? = some o ∧ o.isCells = false) : KB W' B bb nb bv bs :=
  ⟨Ak.ownB_of h.book (fun g hg' => by obtain ⟨cs, hc⟩ := ownB_cells h.book hg'; exact hg.block g (Array.getElem?_eq_some_iff.1 hc).1 (row_ne hc hr)), fun x hx => ⟨EK.own (h.all x hx).1 hg hr, (h.all x hx).2⟩, h.out, h.mrk⟩
/-- How it stands between the rounds. -/
structure St (wM : World) (bb nb p : Nat) (bv : Value) (bs : List KE) (W : World) : Prop where
  bel : Below wM.heap.size wM W
  box : Boxed W bb 27 bv
  nbx : Boxed W nb 3 (.int .i64 (p : Int))
  kbk : KB W wM.heap.size bb nb bv bs
  lo : wM.heap.size ≤ bb ∧ bb < nb
theorem St.own {wM W W' : World} {bb nb p : Nat} {bv : Value} {bs : List KE} {row : Option Nat} {B : Nat} (h : St wM bb nb p bv bs W) (hg : W.grownBy W' row) (hB : wM.heap.size ≤ B) (hr : ∀ r, row = some r → B ≤ r ∧ ∃ o : Obj, W.heap[r]? = some o ∧ o.isCells = false) : St wM bb nb p bv bs W' :=
  ⟨h.bel.grown hg h.bel.size (fun k e => by have := (hr k e).1; omega), h.box.kept hg (row_ne h.box (fun r e => (hr r e).2)), h.nbx.kept hg (row_ne h.nbx (fun r e => (hr r e).2)), h.kbk.own hg (fun r e => (hr r e).2), h.lo⟩
theorem St.below {wM W W' : World} {bb nb p : Nat} {bv : Value} {bs : List KE} (h : St wM bb nb p bv bs W) (hb : Below W.heap.size W W') : St wM bb nb p bv bs W' :=
  ⟨h.bel.trans (hb.mono h.bel.size), (hb.block _ h.box.lt).trans h.box, (hb.block _ h.nbx.lt).trans h.nbx, h.kbk.below hb, h.lo⟩
/-- All of it lies ahead of B. -/
def Fr (B bb nb : Nat) (bv : Value) (bs : List KE) : Prop := bb < B ∧ nb < B ∧ (∀ g, bv.ownBlock = some g → g < B) ∧ ∀ x ∈ bs, ∀ g, x.1.ownBlock = some g → g < B
theorem St.fr {wM W : World} {bb nb p : Nat} {bv : Value} {bs : List KE} (h : St wM bb nb p bv bs W) : Fr W.heap.size bb nb bv bs :=
  ⟨h.box.lt, h.nbx.lt, fun g hg => (Ak.ownB_lt h.kbk.book hg).2, fun x hx g hg => (h.kbk.all x hx).1.2.1 g hg⟩
theorem mrk_snoc {bs : List KE} {t : Nat} (h : ∀ i (h : i < bs.length), bs[i].2.1 = mk (i / 2)) (hl : bs.length = 2 * t) (l more : Value) (n : Nat) : ∀ i (h : i < (bs ++ [(l, mk t, n), (more, mk t, n + 1)]).length), (bs ++ [(l, mk t, n), (more, mk t, n + 1)])[i].2.1 = mk (i / 2) := by
  intro i hi
  by_cases q : i < bs.length
  · rw [List.getElem_append_left q]
    exact h i q
  · rw [List.getElem_append_right (by omega)]
    rw [List.length_append] at hi
    have hi' : i < bs.length + 2 := hi
    have e : i = bs.length ∨ i = bs.length + 1 := by omega
    rcases e with rfl | rfl
    · simp only [Nat.sub_self, List.getElem_cons_zero]
      congr 1
      omega
    · have e2 : bs.length + 1 - bs.length = 1 := by omega
      simp only [e2, List.getElem_cons_succ, List.getElem_cons_zero]
      congr 1
      omega
/-- A row's list, full of marks, is kept: two appends and a store. -/
theorem keep_all {wM Ub W : World} {bb nb p t n B : Nat} {bv l : Value} {bs : List KE} (hS : St wM bb nb p bv bs Ub) (hF : Fr B bb nb bv bs) (hlen : bs.length = 2 * t) (ht : t ≤ 2000) (hn : n ≤ 8388607) (hMB : wM.heap.size ≤ B) (hBU : B ≤ Ub.heap.size)
    (hl : OwnS W B l (List.replicate n (mk t))) (hlU : ∀ g, l.ownBlock = some g → ∃ cs, Ub.heap[g]? = some (.cells cs 9 (0, 0))) (hc : Ak.Ch (fun g => l.ownBlock = some g) Ub W) :
    ∃ more W2 bv' W4,
      (Builtin.append_ #[28, 28] 28 #[l, .slice (some ⟨W.heap.size, 0, none⟩) 1 1]).run Tryd.prog (W.alloc (.cells #[.string (S (mk t))] 9)) = .ok more W2 ∧
      (Builtin.append_ #[27, 27] 27 #[bv, .slice (some ⟨W2.heap.size, 0, none⟩) 2 2]).run Tryd.prog (W2.alloc (.cells #[l, more] 28)) = .ok bv' W4 ∧
      (∃ a c, more = .slice a (n + 1) c) ∧ (∃ a n c, bv' = .slice a n c) ∧ Boxed W2 bb 27 bv ∧ Boxed W4 bb 27 bv ∧ Ak.Ch (fun g => l.ownBlock = some g) Ub W2 ∧
      St wM bb nb p bv' (bs ++ [(l, mk t, n), (more, mk t, n + 1)]) (W4.setCell ⟨bb, 0, none⟩ bv') ∧ ChT wM.heap.size Ub (W4.setCell ⟨bb, 0, none⟩ bv') := by
  have hlB : ∀ g, l.ownBlock = some g → B ≤ g ∧ g < W.heap.size := fun g hg => ownS_lt hl hg
  have hlbv : ∀ g, l.ownBlock = some g → bv.ownBlock ≠ some g ∧ g ≠ bb ∧ g ≠ nb ∧ ∀ x ∈ bs, x.1.ownBlock ≠ some g := fun g hg => by
    have h1 := (hlB g hg).1
    exact ⟨fun e => by have := hF.2.2.1 g e; omega, by have := hF.1; omega, by have := hF.2.1; omega, fun x hx e => by have := hF.2.2.2 x hx g e; omega⟩
  have hUW := hc.2.2.2.1
  have hKW : KB W wM.heap.size bb nb bv bs := hS.kbk.ch hc (fun g hg q => (hlbv g q).1 hg) (fun x hx g hg q => (hlbv g q).2.2.2 x hx hg)
  have hbxW : Boxed W bb 27 bv := (hc.2.2.2.2 bb hS.box.lt (fun q => (hlbv bb q).2.1 rfl)).trans hS.box
  have hnbW : Boxed W nb 3 (.int .i64 (p : Int)) := (hc.2.2.2.2 nb hS.nbx.lt (fun q => (hlbv nb q).2.2.1 rfl)).trans hS.nbx
  obtain ⟨W1, hW1⟩ : ∃ W1, W.alloc (.cells #[.string (S (mk t))] 9) = W1 := ⟨_, rfl⟩
  have hb1 : Below W.heap.size W W1 := by rw [← hW1]; exact (Below.refl _ _).alloc (Nat.le_refl _) _
  have hs1 : W1.heap.size = W.heap.size + 1 := by rw [← hW1]; simp
  have hg1 : W1.heap[W.heap.size]? = some (.cells #[.string (S (mk t))] 9 (0, 0)) := by rw [← hW1]; exact Ak.hp_new _ _
  obtain ⟨more, W2, hr1, hM2, hgr2, hob2⟩ := Ak.moreS_any W1 B l (mk t) n W.heap.size (Ak.ownS_below hl hb1) hg1 (by omega) (by omega)
  have hc2 : Ak.Ch (fun g => l.ownBlock = some g) W1 W2 := Ak.Ch.of_grown hgr2 (fun r hr => hr)
  have hs2 : W1.heap.size ≤ W2.heap.size := hc2.2.2.2.1
  have hK2 : KB W2 wM.heap.size bb nb bv bs := (hKW.below hb1).ch hc2 (fun g hg q => (hlbv g q).1 hg) (fun x hx g hg q => (hlbv g q).2.2.2 x hx hg)
  have hbx1 : Boxed W1 bb 27 bv := (hb1.block _ hbxW.lt).trans hbxW
  have hnb1 : Boxed W1 nb 3 (.int .i64 (p : Int)) := (hb1.block _ hnbW.lt).trans hnbW
  have hbx2 : Boxed W2 bb 27 bv := (hc2.2.2.2.2 bb hbx1.lt (fun q => (hlbv bb q).2.1 rfl)).trans hbx1
  have hnb2 : Boxed W2 nb 3 (.int .i64 (p : Int)) := (hc2.2.2.2.2 nb hnb1.lt (fun q => (hlbv nb q).2.2.1 rfl)).trans hnb1
  obtain ⟨⟨la, lc, hle, hlr⟩, ⟨ma, mc, hme, hmr⟩⟩ := hM2
  have hmb : ∀ g, more.ownBlock = some g → l.ownBlock = some g ∨ g = W1.heap.size := fun g hg => by
    rcases hob2 with q | q
    · rw [q] at hg; exact Or.inl hg
    · rw [q] at hg; injection hg with hg; exact Or.inr hg.symm
  have hml : ∀ g, more.ownBlock = some g → g < W2.heap.size := fun g hg => by
    obtain ⟨b, off, e, hc⟩ := hmr 0 (by rw [List.length_replicate]; omega)
    rw [hme, e] at hg
    injection hg with hg
    replace hg : b = g := hg
    subst hg
    exact World.block_lt_of_cell? W2 _ hc
  obtain ⟨W3, hW3⟩ : ∃ W3, W2.alloc (.cells #[l, more] 28) = W3 := ⟨_, rfl⟩
  have hb3 : Below W2.heap.size W2 W3 := by rw [← hW3]; exact (Below.refl _ _).alloc (Nat.le_refl _) _
  have hs3 : W3.heap.size = W2.heap.size + 1 := by rw [← hW3]; simp
  have hg3 : W3.heap[W2.heap.size]? = some (.cells [l, more].toArray 28 (0, 0)) := by rw [← hW3]; exact Ak.hp_new _ _
  have hK3 : KB W3 wM.heap.size bb nb bv bs := hK2.below hb3
  have hbx3 : Boxed W3 bb 27 bv := (hb3.block _ hbx2.lt).trans hbx2
  have hnb3 : Boxed W3 nb 3 (.int .i64 (p : Int)) := (hb3.block _ hnb2.lt).trans hnb2
  obtain ⟨i0, hi, hz0, hz1, hz2⟩ := info_parts Ak.info_sl
  have hone : ∀ u ∈ [l, more], u.oneCell' = true := by
    intro u hu
    simp at hu
    rcases hu with rfl | rfl
    · rw [hle]; rfl
    · rw [hme]; rfl
  have hbl : (kb bs).length = bs.length := List.length_map _
  obtain ⟨gb, capb, W4, hr2, hO4, hgr4, hv4, _⟩ := run_append_lies (P := Tryd.prog) W3 27 27 wM.heap.size 28 i0 _ 1 24 Tryd.underlying27 hi hz0 hz1 hz2 rfl (by decide) bv (kb bs).length (kb bs) hK3.book ⟨W2.heap.size, 0, none⟩ 2 2 [l, more] rfl (by simpa using World.news_of_block hg3) hone (by decide) (by rw [hbl]; unfold maxLen; omega) (by rw [hbl]; omega) (by omega) W3.heap.size rfl
  have hc4 : Ak.Ch (fun g => bv.ownBlock = some g) W3 W4 := Ak.Ch.of_grown hgr4 (fun r hr => hr)
  have hs4 : W3.heap.size ≤ W4.heap.size := hc4.2.2.2.1
  have hbvU : ∀ g, bv.ownBlock = some g → g < Ub.heap.size := fun g hg => (Ak.ownB_lt hS.kbk.book hg).2
  have hbx4 : Boxed W4 bb 27 bv := (hc4.2.2.2.2 bb hbx3.lt (fun q => (hS.kbk.out bb q).1 rfl)).trans hbx3
  have hnb4 : Boxed W4 nb 3 (.int .i64 (p : Int)) := (hc4.2.2.2.2 nb hnb3.lt (fun q => (hS.kbk.out nb q).2 rfl)).trans hnb3
  have hgb : ∀ g, (Value.slice (some ⟨gb, 0, none⟩) ((kb bs).length + 2) capb).ownBlock = some g → bv.ownBlock = some g ∨ g = W3.heap.size := fun g hg => by
    have e : gb = g := by simpa [Value.ownBlock] using hg
    subst e
    exact hv4
  -- the world behind the store
  obtain ⟨V, hV⟩ : ∃ V, W4.setCell ⟨bb, 0, none⟩ (.slice (some ⟨gb, 0, none⟩) ((kb bs).length + 2) capb) = V := ⟨_, rfl⟩
  have hc5 : Ak.Ch (fun g => g = bb) W4 V := by rw [← hV]; exact Ak.Ch.set W4 _ _ rfl
  have hlW3 : EK W3 (l, mk t, n) := ⟨⟨la, lc, hle, Ak.Row_ch hlr (Ak.Ch.of_below (ks := fun _ => False) hb3) (fun _ _ _ q => q)⟩, fun g hg => by have := (hlB g hg).2; omega, by show n ≤ 8388608; omega⟩
  have hmW3 : EK W3 (more, mk t, n + 1) := ⟨⟨ma, mc, hme, Ak.Row_ch hmr (Ak.Ch.of_below (ks := fun _ => False) hb3) (fun _ _ _ q => q)⟩, fun g hg => by have := hml g hg; omega, by show n + 1 ≤ 8388608; omega⟩
  have hla : ∀ g, l.ownBlock = some g → bv.ownBlock ≠ some g ∧ g ≠ bb ∧ g ≠ nb := fun g hg => ⟨(hlbv g hg).1, (hlbv g hg).2.1, (hlbv g hg).2.2.1⟩
  have hma : ∀ g, more.ownBlock = some g → bv.ownBlock ≠ some g ∧ g ≠ bb ∧ g ≠ nb := fun g hg => by
    rcases hmb g hg with q | q
    · exact hla g q
    · have h1 := hbxW.lt
      have h2 := hnbW.lt
      exact ⟨fun e => by have := hbvU g e; omega, by omega, by omega⟩
  have ek5 : ∀ x : KE, EK W3 x → (∀ g, x.1.ownBlock = some g → bv.ownBlock ≠ some g ∧ g ≠ bb ∧ g ≠ nb) → EK V x := fun x hx ha => (hx.ch hc4 (fun g hg q => (ha g hg).1 q)).ch hc5 (fun g hg q => (ha g hg).2.1 q)
  have ap5 : ∀ x : KE, (∀ g, x.1.ownBlock = some g → g < W3.heap.size) → (∀ g, x.1.ownBlock = some g → bv.ownBlock ≠ some g ∧ g ≠ bb ∧ g ≠ nb) → ∀ g, x.1.ownBlock = some g → (Value.slice (some ⟨gb, 0, none⟩) ((kb bs).length + 2) capb).ownBlock ≠ some g ∧ g ≠ bb ∧ g ≠ nb := fun x hl ha g hg => by
    have h3 := hl g hg
    refine ⟨fun e => ?_, (ha g hg).2⟩
    rcases hgb g e with q | q
    · exact (ha g hg).1 q
    · omega
  have hout : ∀ g, (Value.slice (some ⟨gb, 0, none⟩) ((kb bs).length + 2) capb).ownBlock = some g → g ≠ bb ∧ g ≠ nb := fun g hg => by
    rcases hgb g hg with q | q
    · exact hS.kbk.out g q
    · have h1 := hbx3.lt
      have h2 := hnb3.lt
      exact ⟨by omega, by omega⟩
  have h4 : OwnB W4 wM.heap.size (.slice (some ⟨gb, 0, none⟩) ((kb bs).length + 2) capb) (kb (bs ++ [(l, mk t, n), (more, mk t, n + 1)])) := by
    unfold OwnB kb
    rw [List.map_append, List.length_append]
    exact hO4
  have hKV : KB V wM.heap.size bb nb (.slice (some ⟨gb, 0, none⟩) ((kb bs).length + 2) capb) (bs ++ [(l, mk t, n), (more, mk t, n + 1)]) := by
    refine ⟨Ak.ownB_of h4 (fun g hg => hc5.2.2.2.2 g (Ak.ownB_lt h4 hg).2 (fun q => (hout g hg).1 q)), fun x hx => ?_, hout, mrk_snoc hS.kbk.mrk hlen _ _ _⟩
    rcases List.mem_append.1 hx with hx | hx
    · exact ⟨ek5 x (hK3.all x hx).1 (hK3.all x hx).2, ap5 x (hK3.all x hx).1.2.1 (hK3.all x hx).2⟩
    · simp at hx
      rcases hx with rfl | rfl
      · exact ⟨ek5 _ hlW3 hla, ap5 _ hlW3.2.1 hla⟩
      · exact ⟨ek5 _ hmW3 hma, ap5 _ hmW3.2.1 hma⟩
  have hcl : ∀ g o, l.ownBlock = some g → Ub.heap[g]? = some o → wM.heap.size ≤ g ∧ ∃ cs t fz, o = .cells cs t fz ∧ TT t = true := fun g o hg ho => by
    obtain ⟨cs, h⟩ := hlU g hg
    rw [h] at ho
    injection ho with ho
    exact ⟨by have := (hlB g hg).1; omega, cs, _, _, ho.symm, rfl⟩
  have hclW : ∀ g o, l.ownBlock = some g → W1.heap[g]? = some o → wM.heap.size ≤ g ∧ ∃ cs t fz, o = .cells cs t fz ∧ TT t = true := fun g o hg ho => by
    obtain ⟨cs, h⟩ := ownS_cells (Ak.ownS_below hl hb1) hg
    rw [h] at ho
    injection ho with ho
    exact ⟨by have := (hlB g hg).1; omega, cs, _, _, ho.symm, rfl⟩
  have hclB : ∀ g o, bv.ownBlock = some g → W3.heap[g]? = some o → wM.heap.size ≤ g ∧ ∃ cs t fz, o = .cells cs t fz ∧ TT t = true := fun g o hg ho => by
    obtain ⟨cs, h⟩ := ownB_cells hK3.book hg
    rw [h] at ho
    injection ho with ho
    exact ⟨(Ak.ownB_lt hK3.book hg).1, cs, _, _, ho.symm, rfl⟩
  have hT : ChT wM.heap.size Ub V := by
    rw [← hV]
    exact (((((ChT.of_ch hc hcl).trans (ChT.of_below hb1)).trans (ChT.of_ch hc2 hclW)).trans (ChT.of_below hb3)).trans (ChT.of_ch hc4 hclB)).trans (ChT.box hbx4 rfl hS.lo.1)
  refine ⟨more, W2, _, W4, by rw [hW1]; exact hr1, by rw [hW3]; exact hr2, ⟨ma, mc, hme⟩, ⟨_, _, _, rfl⟩, hbx2, hbx4, (hc.trans (Ak.Ch.of_below hb1)).trans hc2, ?_, by rw [hV]; exact hT⟩
  rw [hV]
  refine ⟨hS.bel.trans (hT.below hS.bel.size), ?_, ?_, hKV, hS.lo⟩
  · rw [← hV]; exact hbx4.set _
  · rw [← hV]; exact hnb4.other (by have := hS.lo.2; omega) _
end Ty
end Go.Proofs.YtndbbfbihheagaaDoor
