import Derived.Test.YthbncinmkkipeaaPgRfC
namespace Go.Proofs.Ythbncinmkkipeaa
open Go.RowKit Go.Sort Go.Lib
open PgMath (Inc setOf cnt)
set_option linter.unusedVariables false

theorem Cur.but {w w' : World} {lo b d : Nat} {l : List Int} (h : Cur w lo b l) (hb : ButB d w w') (hlo : lo ≤ b) (hd : d < lo ∨ b < d) : Cur w' lo b l := h.same (fun k h1 h2 => hb.2.2.2.2 k (by omega)) hlo
theorem Cur.keep {w w' : World} {lo b : Nat} {l : List Int} (h : Cur w lo b l) (hb : Below w.heap.size w w') (hlo : lo ≤ b) : Cur w' lo b l := h.same (fun k h1 h2 => hb.block k (by have := h.lt; omega)) hlo
/-- A row that lies clear of two blocks, and behind s. -/
def RowC (s bm bo : Nat) (A : Option Addr) (S : List Int) (w : World) : Prop := NRow w A S ∧ ∀ x, A = some x → s ≤ x.block ∧ x.block ≠ bm ∧ x.block ≠ bo
theorem RowC.below {s bm bo : Nat} {A : Option Addr} {S : List Int} {w w' : World} (h : RowC s bm bo A S w) (hb : Below w.heap.size w w') : RowC s bm bo A S w' := ⟨h.1.below hb, h.2⟩
theorem RowC.same {s bm bo : Nat} {A : Option Addr} {S : List Int} {w w' : World} (h : RowC s bm bo A S w) (hb : ∀ k, s ≤ k → k ≠ bm → k ≠ bo → w'.heap[k]? = w.heap[k]?) : RowC s bm bo A S w' := by
  refine ⟨h.1.of_block fun g hg _ => ?_, h.2⟩
  cases A with
  | none => cases hg
  | some x =>
    simp at hg
    subst hg
    obtain ⟨h1, h2, h3⟩ := h.2 x rfl
    exact hb _ h1 h2 h3
abbrev rcO (A : Option Addr) (n C t : Nat) : Obj := .cells #[.slice A n C, .int .i64 (t : Int)] 33 (0, 0)
/-- Two cursors of the program, and two of the reference. -/
def CSt (w : World) (s n bm bo : Nat) (S : List Int) (b1 b2 : Nat) (A1 A2 : Option Addr) (C1 C2 u1 t1 t2 : Nat) (wr : World) : Prop :=
  (∃ lo1 lo2, Cur wr lo1 b1 (S.drop u1) ∧ Cur wr lo2 b2 (S.drop t2) ∧ lo1 ≤ b1 ∧ lo2 ≤ b2 ∧ (b1 < lo2 ∨ b2 < lo1) ∧ w.heap.size ≤ lo1 ∧ w.heap.size ≤ lo2) ∧
  (b1 < s ∧ b2 < s ∧ s ≤ bm ∧ s ≤ bo ∧ bm ≠ bo ∧ w.heap.size ≤ s) ∧ wr.heap[bm]? = some (rcO A1 n C1 t1) ∧ wr.heap[bo]? = some (rcO A2 n C2 t2) ∧ RowC s bm bo A1 S wr ∧ RowC s bm bo A2 S wr ∧ (t1 ≤ n ∧ t2 ≤ n) ∧ Below w.heap.size w wr
theorem CSt.below {w : World} {s n bm bo : Nat} {S : List Int} {b1 b2 : Nat} {A1 A2 : Option Addr} {C1 C2 u1 t1 t2 : Nat} {wr w' : World} (h : CSt w s n bm bo S b1 b2 A1 A2 C1 C2 u1 t1 t2 wr) (hb : Below wr.heap.size wr w') : CSt w s n bm bo S b1 b2 A1 A2 C1 C2 u1 t1 t2 w' := by
  obtain ⟨⟨lo1, lo2, h1, h2, h3, h4, h5⟩, h6, h7, h8, h9, h10, h11, h12⟩ := h
  refine ⟨⟨lo1, lo2, h1.keep hb h3, h2.keep hb h4, h3, h4, h5⟩, h6, ?_, ?_, h9.below hb, h10.below hb, h11, h12.trans (hb.mono h12.size)⟩
  · rw [hb.block _ (Array.getElem?_eq_some_iff.1 h7).1]; exact h7
  · rw [hb.block _ (Array.getElem?_eq_some_iff.1 h8).1]; exact h8
theorem CSt.drewN {w : World} {s n bm bo : Nat} {S : List Int} {b1 b2 : Nat} {A1 A2 : Option Addr} {C1 C2 u1 t1 t2 : Nat} {wr : World} (h : CSt w s n bm bo S b1 b2 A1 A2 C1 C2 u1 t1 t2 wr) (q : Nat) : CSt w s n bm bo S b1 b2 A1 A2 C1 C2 u1 t1 t2 (wr.drewN q) := h.below (below_drewN _ _ _)
/-- The first cursor moves. -/
theorem CSt.moved {w : World} {s n bm bo : Nat} {S : List Int} {b1 b2 : Nat} {A1 A2 : Option Addr} {C1 C2 u1 t1 t2 : Nat} {wr : World} (h : CSt w s n bm bo S b1 b2 A1 A2 C1 C2 u1 t1 t2 wr) :
    ∃ lo, Cur wr lo b1 (S.drop u1) ∧ ∀ w' u, Cur w' lo b1 (S.drop u) → ButB b1 wr w' → CSt w s n bm bo S b1 b2 A1 A2 C1 C2 u t1 t2 w' := by
  obtain ⟨⟨lo1, lo2, h1, h2, h3, h4, h5, h5a, h5b⟩, h6, h7, h8, h9, h10, h11, h12⟩ := h
  refine ⟨lo1, h1, fun w' u hc hb => ?_⟩
  refine ⟨⟨lo1, lo2, hc, h2.but hb h4 (by omega), h3, h4, h5, h5a, h5b⟩, h6, ?_, ?_, h9.same (fun k hk _ _ => hb.2.2.2.2 k (by omega)), h10.same (fun k hk _ _ => hb.2.2.2.2 k (by omega)), h11, h12.trans (hb.below (by omega))⟩
  · rw [hb.2.2.2.2 _ (by omega)]; exact h7
  · rw [hb.2.2.2.2 _ (by omega)]; exact h8
/-- The first of the reference's cursors is written anew. -/
theorem CSt.setM {w : World} {s n bm bo : Nat} {S : List Int} {b1 b2 : Nat} {A1 A2 : Option Addr} {C1 C2 u1 t t1 t2 : Nat} {wr : World} (h : CSt w s n bm bo S b1 b2 A1 A2 C1 C2 u1 t1 t2 wr) (ht : t ≤ n) :
    CSt w s n bm bo S b1 b2 A1 A2 C1 C2 u1 t t2 ((wr.setCell ⟨bm, 0, none⟩ (.slice A1 n C1)).setCell ⟨bm, 1, none⟩ (.int .i64 (t : Int))) := by
  obtain ⟨⟨lo1, lo2, h1, h2, h3, h4, h5, h5a, h5b⟩, h6, h7, h8, h9, h10, h11, h12⟩ := h
  have hk : ∀ k, k ≠ bm → ((wr.setCell ⟨bm, 0, none⟩ (.slice A1 n C1)).setCell ⟨bm, 1, none⟩ (.int .i64 (t : Int))).heap[k]? = wr.heap[k]? := fun k hk => by
    rw [Below.heap_setCell _ _ _ _ hk, Below.heap_setCell _ _ _ _ hk]
  refine ⟨⟨lo1, lo2, h1.same (fun k q1 q2 => hk k (by omega)) h3, h2.same (fun k q1 q2 => hk k (by omega)) h4, h3, h4, h5, h5a, h5b⟩, h6, two_set h7 _ _, ?_, h9.same (fun k _ q1 _ => hk k q1), h10.same (fun k _ q1 _ => hk k q1), ⟨ht, h11.2⟩, ?_⟩
  · rw [hk bo (by omega)]; exact h8
  · refine Below.setCell (Below.setCell h12 ?_ _) ?_ _ <;> (show w.heap.size ≤ bm; omega)
/-- Both change their parts. -/
theorem CSt.swap {w : World} {s n bm bo : Nat} {S : List Int} {b1 b2 : Nat} {A1 A2 : Option Addr} {C1 C2 t1 t2 : Nat} {wr : World} (h : CSt w s n bm bo S b1 b2 A1 A2 C1 C2 t1 t1 t2 wr) :
    CSt w s n bm bo S b2 b1 A2 A1 C2 C1 t2 t2 t1 ((((wr.setCell ⟨bm, 0, none⟩ (.slice A2 n C2)).setCell ⟨bm, 1, none⟩ (.int .i64 (t2 : Int))).setCell ⟨bo, 0, none⟩ (.slice A1 n C1)).setCell ⟨bo, 1, none⟩ (.int .i64 (t1 : Int))) := by
  obtain ⟨⟨lo1, lo2, h1, h2, h3, h4, h5, h5a, h5b⟩, h6, h7, h8, h9, h10, h11, h12⟩ := h
  have hk : ∀ k, k ≠ bm → k ≠ bo → ((((wr.setCell ⟨bm, 0, none⟩ (.slice A2 n C2)).setCell ⟨bm, 1, none⟩ (.int .i64 (t2 : Int))).setCell ⟨bo, 0, none⟩ (.slice A1 n C1)).setCell ⟨bo, 1, none⟩ (.int .i64 (t1 : Int))).heap[k]? = wr.heap[k]? := fun k q1 q2 => by
    rw [Below.heap_setCell _ _ _ _ q2, Below.heap_setCell _ _ _ _ q2, Below.heap_setCell _ _ _ _ q1, Below.heap_setCell _ _ _ _ q1]
  have hne : bm ≠ bo := h6.2.2.2.2.1
  refine ⟨⟨lo2, lo1, h2.same (fun k q1 q2 => hk k (by omega) (by omega)) h4, h1.same (fun k q1 q2 => hk k (by omega) (by omega)) h3, h4, h3, by omega, h5b, h5a⟩, by omega, ?_, ?_, h10.same (fun k _ q1 q2 => hk k q1 q2), h9.same (fun k _ q1 q2 => hk k q1 q2), ⟨h11.2, h11.1⟩, ?_⟩
  · rw [Below.heap_setCell _ _ _ _ hne, Below.heap_setCell _ _ _ _ hne]
    exact two_set h7 _ _
  · refine two_set (a0 := .slice A2 n C2) (a1 := .int .i64 (t2 : Int)) ?_ _ _
    rw [Below.heap_setCell _ _ _ _ hne.symm, Below.heap_setCell _ _ _ _ hne.symm]
    exact h8
  · refine Below.setCell (Below.setCell (Below.setCell (Below.setCell h12 ?_ _) ?_ _) ?_ _) ?_ _ <;> first | (show w.heap.size ≤ bm; omega) | (show w.heap.size ≤ bo; omega)
/-- A script, as it came in. -/
def OpsAt (w : World) (sa : Option Addr) (sn : Nat) (K X : Nat → Int) : Prop := ∀ i, i < sn → ∃ b off, sa = some ⟨b, off, none⟩ ∧ w.cell? ⟨b, off + i * 2, none⟩ = some (.int .i64 (K i)) ∧ w.cell? ⟨b, off + i * 2 + 1, none⟩ = some (.int .i64 (X i))
theorem OpsAt.below {w w' : World} {sa : Option Addr} {sn : Nat} {K X : Nat → Int} (h : OpsAt w sa sn K X) (hb : Below w.heap.size w w') : OpsAt w' sa sn K X := fun i hi => by
  obtain ⟨b, off, e, h1, h2⟩ := h i hi
  exact ⟨b, off, e, by rw [hb.cell (World.block_lt_of_cell? w _ h1)]; exact h1, by rw [hb.cell (World.block_lt_of_cell? w _ h2)]; exact h2⟩
end Go.Proofs.Ythbncinmkkipeaa
