import Derived.Test.YtdbhcemmaahemaaPgRef
namespace Go.Proofs.Ytdbhcemmaahemaa
open Go.RowKit Go.Sort Go.Lib
open PgMath (Inc setOf cnt)
set_option linter.unusedVariables false
set_option maxRecDepth 100000

/-- A cursor of the reference. -/
abbrev rcV (a : Option Addr) (n c : Nat) (k : Nat) : Value := .agg #[.slice a n c, .int .i64 (k : Int)]
theorem cnt_drop {S : List Int} (h : Inc S) (x : Int) (k : Nat) : cnt (S.drop k) x = cnt S x - k := by
  obtain ⟨h1, h2⟩ := PgMath.cnt_split S x h
  have hl := PgMath.cnt_len S x
  refine PgMath.cnt_at (S.drop k) x (cnt S x - k) (by rw [List.length_drop]; omega) (fun j hj hjk => ?_) (PgMath.inc_drop h k) (fun hh => ?_)
  · rw [List.getElem_drop]
    rw [List.length_drop] at hj
    exact h1 (k + j) (by omega) (by omega)
  · rw [List.getElem_drop]
    rw [List.length_drop] at hh
    exact h2 (k + (cnt S x - k)) (by omega) (by omega)
theorem two_at {W : World} {R : Nat} {t : TypeId} {a0 a1 : Value} (h : W.heap[R]? = some (.cells #[a0, a1] t (0, 0))) : W.cell? ⟨R, 0, none⟩ = some a0 ∧ W.frozen? ⟨R, 0, none⟩ = false ∧ W.cell? ⟨R, 1, none⟩ = some a1 ∧ W.frozen? ⟨R, 1, none⟩ = false := by
  refine ⟨?_, ?_, ?_, ?_⟩ <;> simp [World.cell?, World.frozen?, h]
theorem ownI_but {w w' : World} {b B : Nat} {v : Value} {l : List Int} (h : OwnI w B v l) (hb : ButB b w w') (hB : b < B) : OwnI w' B v l := by
  rcases h with ⟨h1, ⟨rfl, h2⟩ | ⟨g, cap, cur, rfl, h3, h4, h5⟩⟩
  · exact ⟨h1, Or.inl ⟨rfl, h2⟩⟩
  · exact ⟨h1, Or.inr ⟨g, cap, cur, rfl, h3, by rw [hb.2.2.2.2 g (by omega)]; exact h4, h5⟩⟩
theorem two_set {W : World} {R : Nat} {t : TypeId} {a0 a1 : Value} (h : W.heap[R]? = some (.cells #[a0, a1] t (0, 0))) (v0 v1 : Value) :
    ((W.setCell ⟨R, 0, none⟩ v0).setCell ⟨R, 1, none⟩ v1).heap[R]? = some (.cells #[v0, v1] t (0, 0)) :=
  Go.heap_setCell_same _ _ _ _ _ _ (Go.heap_setCell_same _ _ _ _ _ _ h)
theorem two_alloc (w : World) (o p : Obj) : ((w.alloc o).alloc p).heap[w.heap.size + 1]? = some p ∧ Below w.heap.size w ((w.alloc o).alloc p) := by
  refine ⟨?_, ((Below.refl _ _).alloc (Nat.le_refl _) _).alloc (by simp) _⟩
  have := heap_alloc_new (w.alloc o) p
  simpa using this
end Go.Proofs.Ytdbhcemmaahemaa
