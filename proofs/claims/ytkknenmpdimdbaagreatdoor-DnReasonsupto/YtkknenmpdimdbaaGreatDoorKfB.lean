import Derived.Test.YtkknenmpdimdbaaGreatDoorKfA
import Derived.Defers
import Derived.Recover
import Derived.Laws.Pointers
namespace Go.Proofs.YtkknenmpdimdbaaGreatDoor
namespace Ke
open Go.RowKit Go.Extern.Stop Go.Stop Go.Extern
set_option linter.unusedVariables false
set_option linter.unusedSimpArgs false
set_option maxRecDepth 100000
def ErrT (W : World) : Prop := W.cell? ⟨11, 0, none⟩ = some (.iface 155 (.agg #[.pointer (some ⟨13, 32, none⟩)]))
set_option maxHeartbeats 4000000 in
theorem as_hit (tb : Nat) (t : TypeId) (u o0 o1 : Value) (num : Int) (w : World) (hg : ErrT w) (ht0 : w.heap[tb]? = some (.cells #[o0, o1] 69 (0, 0))) :
  Calls Tryz.prog 80 #[.iface 69 (.agg #[.iface t u, .int .i64 num]), .iface 125 (.pointer (some ⟨tb, 0, none⟩))] w fun e w' => e = .returned (.bool true) ∧ ∃ w1, Below w.heap.size w w1 ∧ w1.heap[tb]? = some (.cells #[o0, o1] 69 (0, 0)) ∧ w' = (w1.setCell ⟨tb, 0, none⟩ (.iface t u)).setCell ⟨tb, 1, none⟩ (.int .i64 num) := by
 obtain ⟨W1, hW1⟩ : ∃ W1, w.alloc (.cells #[.pointer (some ⟨tb, 0, none⟩)] 125) = W1 := ⟨_, rfl⟩
 obtain ⟨W2, hW2⟩ : ∃ W2, W1.alloc (.cells #[.pointer (some ⟨13, 125, none⟩), .pointer (some ⟨w.heap.size, 0, none⟩), .int .u64 150] 175) = W2 := ⟨_, rfl⟩
 obtain ⟨W3, hW3⟩ : ∃ W3, W2.alloc (.cells #[.pointer (some ⟨13, 125, none⟩), .pointer (some ⟨w.heap.size, 0, none⟩), .int .u64 150] 175) = W3 := ⟨_, rfl⟩
 obtain ⟨W4, hW4⟩ : ∃ W4, W3.alloc (.cells #[.iface t u, .int .i64 num] 69) = W4 := ⟨_, rfl⟩
 have b1 : Below w.heap.size w W1 := by rw [← hW1]; exact (Below.refl _ _).alloc (Nat.le_refl _) _
 have b2 : Below W1.heap.size W1 W2 := by rw [← hW2]; exact (Below.refl _ _).alloc (Nat.le_refl _) _
 have b3 : Below W2.heap.size W2 W3 := by rw [← hW3]; exact (Below.refl _ _).alloc (Nat.le_refl _) _
 have b4 : Below W3.heap.size W3 W4 := by rw [← hW4]; exact (Below.refl _ _).alloc (Nat.le_refl _) _
 have v1 : W1.cell? ⟨w.heap.size, 0, none⟩ = some (.pointer (some ⟨tb, 0, none⟩)) := by rw [← hW1]; exact cell_one_new _ _ _ 0 _ rfl
 have v2 : W2.cell? ⟨w.heap.size, 0, none⟩ = some (.pointer (some ⟨tb, 0, none⟩)) := (b2.cell (World.block_lt_of_cell? _ _ v1)).trans v1
 have v3 : W3.cell? ⟨w.heap.size, 0, none⟩ = some (.pointer (some ⟨tb, 0, none⟩)) := (b3.cell (World.block_lt_of_cell? _ _ v2)).trans v2
 have x2 : W2.heap[W1.heap.size]? = some (.cells #[.pointer (some ⟨13, 125, none⟩), .pointer (some ⟨w.heap.size, 0, none⟩), .int .u64 150] 175 (0, 0)) := by rw [← hW2]; exact heap_alloc_new _ _
 have x3 : W3.heap[W2.heap.size]? = some (.cells #[.pointer (some ⟨13, 125, none⟩), .pointer (some ⟨w.heap.size, 0, none⟩), .int .u64 150] 175 (0, 0)) := by rw [← hW3]; exact heap_alloc_new _ _
 have q0 : W2.cell? ⟨W1.heap.size, 0, none⟩ = some (.pointer (some ⟨13, 125, none⟩)) := by rw [cell_of_row _ _ _ _ _ _ x2]; rfl
 have q1 : W2.cell? ⟨W1.heap.size, 1, none⟩ = some (.pointer (some ⟨w.heap.size, 0, none⟩)) := by rw [cell_of_row _ _ _ _ _ _ x2]; rfl
 have q2 : W2.cell? ⟨W1.heap.size, 2, none⟩ = some (.int .u64 150) := by rw [cell_of_row _ _ _ _ _ _ x2]; rfl
 have r0 : W3.cell? ⟨W2.heap.size, 0, none⟩ = some (.pointer (some ⟨13, 125, none⟩)) := by rw [cell_of_row _ _ _ _ _ _ x3]; rfl
 have r1 : W3.cell? ⟨W2.heap.size, 1, none⟩ = some (.pointer (some ⟨w.heap.size, 0, none⟩)) := by rw [cell_of_row _ _ _ _ _ _ x3]; rfl
 have r2 : W3.cell? ⟨W2.heap.size, 2, none⟩ = some (.int .u64 150) := by rw [cell_of_row _ _ _ _ _ _ x3]; rfl
 have g2 : W2.cell? ⟨11, 0, none⟩ = some (.iface 155 (.agg #[.pointer (some ⟨13, 32, none⟩)])) := by
  have h1 := (b1.cell (World.block_lt_of_cell? _ _ hg)).trans hg
  exact (b2.cell (World.block_lt_of_cell? _ _ h1)).trans h1
 have b04 : Below w.heap.size w W4 := b1.trans ((b2.mono b1.size).trans ((b3.mono (Nat.le_trans b1.size b2.size)).trans (b4.mono (Nat.le_trans b1.size (Nat.le_trans b2.size b3.size)))))
 have hx4 : W4.heap[tb]? = some (.cells #[o0, o1] 69 (0, 0)) := by rw [b04.block _ (Array.getElem?_eq_some_iff.1 ht0).1]; exact ht0
 have hn4 : W4.heap[W3.heap.size]? = some (.cells #[.iface t u, .int .i64 num] 69 (0, 0)) := by rw [← hW4]; exact heap_alloc_new _ _
 have st := setR tb W3.heap.size t u o0 o1 num W4 (by rw [cell_of_row _ _ _ _ _ _ hn4]; rfl) (by rw [cell_of_row _ _ _ _ _ _ hn4]; rfl) (by rw [cell_of_row _ _ _ _ _ _ hx4]; rfl) (by rw [cell_of_row _ _ _ _ _ _ hx4]; rfl) (Go.frozen_of_row _ _ _ _ _ hx4) (Go.frozen_of_row _ _ _ _ _ hx4)
 have el := elemVP ⟨w.heap.size, 0, none⟩ ⟨tb, 0, none⟩ W3 v3
 have n8 := isNilP ⟨w.heap.size, 0, none⟩ ⟨tb, 0, none⟩ W2 v2
 have vR := valueOfR t u num W3
 rw [hW4] at vR
 have vP := valueOfP ⟨tb, 0, none⟩ w
 rw [hW1] at vP
 have f2 := typeP
 have f3 := mKind
 have f4 := mElem
 have f5 := mImplements
 have f6 := mAssignable
 have f7 := kindP
 have f8 := kindR
 have f9 := elemP
 have f10 := implementsR
 have f11 := typeOfR
 have f12 := assignableR
 have hfin : Hid (∃ w1, Below w.heap.size w w1 ∧ w1.heap[tb]? = some (.cells #[o0, o1] 69 (0, 0)) ∧ (W4.setCell ⟨tb, 0, none⟩ (.iface t u)).setCell ⟨tb, 1, none⟩ (.int .i64 num) = (w1.setCell ⟨tb, 0, none⟩ (.iface t u)).setCell ⟨tb, 1, none⟩ (.int .i64 num)) := ⟨W4, b04, hx4, rfl⟩
 clear b1 b2 b3 b4 b04 hx4 hn4 v1 hW1 hW4 ht0 hg x2 x3
 go_enter Tryz.func80, Tryz.ntmps80
 go_wp2
 refine wp_loop_rounds 1 ?_
 rw [rounds_succ]
 go_wp2
 go_ret
 exact ⟨rfl, hfin.out⟩
end Ke
end Go.Proofs.YtkknenmpdimdbaaGreatDoor
