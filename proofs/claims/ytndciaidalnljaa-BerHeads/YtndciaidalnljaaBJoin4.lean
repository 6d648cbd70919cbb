import Derived.Test.YtndciaidalnljaaBJoin3
import Derived.Deep.RegionWith
namespace Go.Proofs.Ytndciaidalnljaa
open Go.RowKit
open BerMath (lo)

/-- May the class and the tag be written? -/
def fineB (c t : Int) : Bool := decide (0 ≤ c) && decide (c ≤ 3) && decide (0 ≤ t) && decide (t ≤ 30)
theorem fineB_iff (c t : Int) (h : fineB c t = true) : ∃ c' t' : Nat, c = (c' : Int) ∧ t = (t' : Int) ∧ c' ≤ 3 ∧ t' ≤ 30 := by
  unfold fineB at h
  simp at h
  exact ⟨c.toNat, t.toNat, by omega, by omega, by omega, by omega⟩

theorem mk_cap (N : Nat) (hN : N ≤ 140737488355328) (W : World) : (Instr.makeSlice 40 (.int .i64 0) (.int .i64 (N : Int))).run Try.prog W = .ok (.slice (some ⟨W.heap.size, 0, none⟩) 0 N) (W.alloc (.cells (madeCells #[.int .u8 0] N) 5)) := by
  obtain ⟨i0, hi, hz0, hz1, hz2⟩ := info_parts info_u8
  have hr := run_make (P := Try.prog) W 40 5 i0 (.int .u8 0) Try.underlying40 hi hz0 .i64 .i64 0 (N : Int) (Int.le_refl _) (by omega) (by rw [hz2]; omega) (by omega)
  simp only [Int.toNat_zero, Int.toNat_natCast, hz1, Nat.mul_one] at hr
  exact hr
theorem own_made (W : World) (B N : Nat) (hB : B ≤ W.heap.size) (hN : N ≤ 140737488355328) : Own (W.alloc (.cells (madeCells #[.int .u8 0] N) 5)) B (.slice (some ⟨W.heap.size, 0, none⟩) 0 N) [] := by
  unfold Own
  exact World.ownsRow_made W _ N hB (by unfold maxLen; omega) (by rw [size_madeCells, Nat.mul_one])

/-- A string appended to a row of the call's own. -/
theorem push_str (w : World) {ops : Array Oper} {rest : List Oper} {o : Oper} {a : Act} {Q : Exit → Act → World → Prop} (hgd : o.guard = none) (s x : Operand)
    (ho : o.op = .call { callee := .builtin .append, args := #[s, x], argTypes := #[40, 9] }) (B : Nat) (v : Value) (l : List UInt8) (str : ByteArray)
    (hs : a.eval s = v) (hx : a.eval x = .string str) (hown : Own w B v l) (hB : B ≤ w.heap.size) (hl : l.length + str.size ≤ 1099511627776)
    (h : ∀ v' w', Own w' B v' (l ++ str.data.toList) → Below B w w' → wpList Try.prog ops Q rest (a.put o.dst v') w') :
    wpList Try.prog ops Q (o :: rest) a w := by
  obtain ⟨i0, hi, hz0, hz1, hz2⟩ := info_parts info_u8
  refine Lib.wpList_append_own_string _ hgd s x 40 9 ho B 5 i0 Try.underlying40 Try.underlying9 hi hz0 hz1 hz2 v l.length (bv l) hs hown str hx (by unfold maxLen; omega) (by omega) hB ?_
  intro v' w' h1 h2 _
  refine h v' w' ?_ ?_
  · unfold Own
    rw [bv_app, List.length_append, size_l]
    exact h1
  · refine (Below.refl _ _).grown h2 hB ?_
    intro k hk
    exact (hown.lt _ hk).1
end Go.Proofs.Ytndciaidalnljaa
