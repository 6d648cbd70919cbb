import Derived.Test.YtkknenmpdimdbaaDoorBlM
import Derived.Test.YtkknenmpdimdbaaDoorDuOwn
import Derived.Test.YtkknenmpdimdbaaDoorBytes
import Derived.Lib.AppendZeros
namespace Go.Proofs.YtkknenmpdimdbaaDoor
namespace Bl
open Go.RowKit
open TextMath (fold lo normal)
open Du (GOwn GRow Kd append_gen flatV_at)
set_option linter.unusedVariables false

def bV (b : UInt8) : List Value := [.int .u8 (b.toNat : Int)]
theorem bV_len (b : UInt8) : (bV b).length = 1 := rfl
theorem bV_flat (l : List UInt8) : l.flatMap bV = bv l := by
  induction l with
  | nil => rfl
  | cons c l ih => rw [List.flatMap_cons, ih]; rfl
theorem KDb : Kd 5 55 1 1 bV := by
  refine ⟨Tryd.underlying55, ?_, by decide, by decide, bV_len, fun x u hu => by simp only [bV, List.mem_singleton] at hu; subst hu; rfl⟩
  have h : (Tryd.prog.info? 5).map (fun i => (i.zero, i.size, i.bytes)) = some (some (.int .u8 0), 1, 1) := by kernel_rfl
  obtain ⟨i0, hi, hz0, hz1, hz2⟩ := info_parts h
  exact ⟨i0, _, hi, hz0, hz1, hz2, rfl⟩
set_option maxRecDepth 100000 in
/-- An append whose run is known. -/
theorem wp_app (w : World) {ops : Array Oper} {rest : List Oper} {o : Oper} {a : Act} {Q : Exit → Act → World → Prop} (hgd : o.guard = none) (s x : Operand) (ts : TypeId)
    (ho : o.op = .call { callee := .builtin .append, args := #[s, x], argTypes := #[ts, ts] }) (ht : o.type = ts) (vs vx v' : Value) (w' : World)
    (hs : a.eval s = vs) (hx : a.eval x = vx) (hr : (Builtin.append_ #[ts, ts] ts #[vs, vx]).run Tryd.prog w = .ok v' w')
    (h : wpList Tryd.prog ops Q rest (a.put o.dst v') w') : wpList Tryd.prog ops Q (o :: rest) a w :=
  Lib.wpList_append_run w hgd s x _ _ ho _ _ hs hx _ _ (by rw [ht]; exact hr) h
theorem g_new {α : Type} {k : Nat} (V : α → List Value) (hV : ∀ x, (V x).length = k) (w : World) (t : TypeId) (l : List α) : GRow k V (w.alloc (.cells (l.flatMap V).toArray t)) (some ⟨w.heap.size, 0, none⟩) l := fun i hi => by
  refine ⟨_, _, rfl, fun j hj => ?_⟩
  have h1 : (w.alloc (.cells (l.flatMap V).toArray t)).heap[w.heap.size]? = some (.cells (l.flatMap V).toArray t (0, 0)) := heap_alloc_new _ _
  rw [cell_of_row _ _ _ _ _ _ h1, Nat.zero_add, List.getElem?_toArray]
  exact flatV_at V k hV l i hi j hj
/-- Bytes of the call's own. -/
def BI (w : World) (v : Value) (l : List UInt8) (W : World) : Prop := GOwn 5 1 bV W w.heap.size v l ∧ Below w.heap.size w W
theorem bi_more {w W : World} {v : Value} {l : List UInt8} (h : BI w v l W) (m : List UInt8) (hl : l.length + m.length ≤ 17179869184) :
    ∃ a' n' c' w', (Builtin.append_ #[55, 55] 55 #[v, .slice (some ⟨W.heap.size, 0, none⟩) m.length m.length]).run Tryd.prog (W.alloc (.cells (m.flatMap bV).toArray 5)) = .ok (.slice a' n' c') w' ∧ BI w (.slice a' n' c') (l ++ m) w' := by
  have hb : Below W.heap.size W (W.alloc (.cells (m.flatMap bV).toArray 5)) := (Below.refl _ _).alloc (Nat.le_refl _) _
  obtain ⟨v', w', e1, o1, _, b1⟩ := append_gen KDb (W.alloc (.cells (m.flatMap bV).toArray 5)) w.heap.size v l m _ m.length m.length (h.1.below hb) (g_new bV bV_len W 5 m) rfl (Nat.le_trans h.2.size hb.size) (by omega)
  obtain ⟨a', c', hv, _⟩ := o1.row bV_len
  subst hv
  exact ⟨a', _, c', w', e1, o1, (h.2.trans (hb.mono h.2.size)).trans b1⟩
theorem bi_conv {w W : World} {v : Value} {l : List UInt8} (h : BI w v l W) : (convert 55 9 v).run Tryd.prog W = .ok (.string (S l)) W := by
  have h1 : W.ownsRow w.heap.size 5 1 v l.length (bv l) := by have := h.1; unfold GOwn at this; rwa [bV_flat] at this
  exact own_back_any W w.heap.size 55 9 5 v l.length l Tryd.underlying55 Tryd.underlying5 Tryd.underlying9 h1
end Bl
end Go.Proofs.YtkknenmpdimdbaaDoor
