import Derived.Test.YtnjakapoggjicaaDoorAtDist
import Derived.Test.YtnjakapoggjicaaDoorAtCovD
namespace Go.Proofs.YtnjakapoggjicaaDoor
open Go.RowKit
open TextMath (fold lo)
set_option linter.unusedVariables false

theorem results_cell_tmp2 {fn : Func} {t u v : Tmp} {ty : TypeId} (h : fn.results = #[.cell t ty, .tmp u, .tmp v]) (tmps : Array Value) (P : Program) (w : World) (p : Addr) (x : Value) (hp : tmps.getD t undef = .pointer (some p)) (hl : (loadVar ty p).run P w = .ok x w) :
    (results fn tmps).run P w = .ok (.tuple #[x, tmps.getD u undef, tmps.getD v undef]) w := by
  have hp' : tmps[t]?.getD undef = .pointer (some p) := by rw [← hp]; simp
  simp [results, h, hp', asAddr, hl, Result.andThen]
theorem duo {W : World} {R : Nat} {t : TypeId} {a0 a1 : Value} (h : W.heap[R]? = some (.cells #[a0, a1] t (0, 0))) (v0 v1 : Value) :
    ∃ W', (W.setCell ⟨R, 0, none⟩ v0).setCell ⟨R, 1, none⟩ v1 = W' ∧ W'.heap[R]? = some (.cells #[v0, v1] t (0, 0)) ∧ (∀ y, y ≠ R → W'.heap[y]? = W.heap[y]?) ∧ ∀ B u, B ≤ R → Below B u W → Below B u W' := by
  refine ⟨_, rfl, Go.heap_setCell_same _ _ _ _ _ _ (Go.heap_setCell_same _ _ _ _ _ _ h), fun y hy => ?_, fun B u hB hu => ?_⟩
  · rw [Below.heap_setCell _ _ _ _ hy, Below.heap_setCell _ _ _ _ hy]
  · refine Below.setCell (Below.setCell hu ?_ _) ?_ _ <;> exact hB
theorem ld_desc (W : World) (R : Nat) (cs : Array Value) (h : W.heap[R]? = some (.cells cs 54 (0, 0))) (hz : cs.size = 2) : (loadVar 54 ⟨R, 0, none⟩).run Tryd.prog W = .ok (.agg cs) W :=
  run_loadVar_row W R 54 54 cs (0, 0) _ h Tryd.underlying54 rfl (by rw [hz]; kernel_rfl)
/-- What Parse answers of a folded text. -/
def ParseIs (W : World) (B : Nat) (f : ByteArray) (e : Ending) : Prop :=
  ((desc f).2.2 = true ∧ ∃ v L, e = .returned (.tuple #[.agg #[.string (canN (typD f)), v], .int .i64 0, .int .i64 ((desc f).2.1 : Int)]) ∧ OwnS W B v (srt L) ∧ L.Nodup ∧ ∀ x, x ∈ L ↔ x ∈ (desc f).1) ∨
  ((desc f).2.2 = false ∧ e = .returned (.tuple #[.agg #[.string ⟨#[]⟩, .slice none 0 0], .int .i64 40, .int .i64 ((desc f).2.1 : Int)]))

end Go.Proofs.YtnjakapoggjicaaDoor
