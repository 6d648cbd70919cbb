import Derived.Test.YtkknenmpdimdbaaGreatDoorKfB
namespace Go.Proofs.YtkknenmpdimdbaaGreatDoor
namespace Ke
open Go.RowKit Go.Extern.Stop Go.Stop Go.Extern
set_option linter.unusedVariables false
set_option linter.unusedSimpArgs false
set_option maxRecDepth 100000

set_option maxHeartbeats 1000000 in
theorem find1_idle (p q : Value) (w : World) : CallsD Tryz.prog 79 #[p, q] .returning w fun e u' w' => e = .returned (.tuple #[]) ∧ u' = .returning ∧ w' = w := by
  refine callsD_of_wpS Tryz.func79 rfl fun c₀ cs hu => ?_
  apply wpS_seq
  apply wpS_region
  simp [wpOpsS, go_sem, recoverD, hu, Tryz.ntmps79]
  show Code.wpS _ _ _ _ _ _
  refine wpS_cond (t := false) (by rfl) ?_
  rw [if_neg (by decide)]
  refine wpS_of_wp ?_
  refine wp_skip ?_
  cases c₀
  simp_all [go_sem, bodyPostS, results, Tryz.results79]

set_option maxHeartbeats 4000000 in
theorem find_any (t : TypeId) (u : Value) (num : Int) (w : World) (hg : ErrT w) :
    Calls Tryz.prog 49 #[.iface 69 (.agg #[.iface t u, .int .i64 num])] w fun e w' => e = .returned (.tuple #[.agg #[.iface t u, .int .i64 num], .bool true]) ∧ Below w.heap.size w w' := by
  obtain ⟨W1, hW1⟩ : ∃ W1, w.alloc (.cells #[.nilIface, .int .i64 0] 69) = W1 := ⟨_, rfl⟩
  obtain ⟨W2, hW2⟩ : ∃ W2, W1.alloc (.cells #[.bool false] 4) = W2 := ⟨_, rfl⟩
  have b1 : Below w.heap.size w W1 := by rw [← hW1]; exact (Below.refl _ _).alloc (Nat.le_refl _) _
  have b2 : Below W1.heap.size W1 W2 := by rw [← hW2]; exact (Below.refl _ _).alloc (Nat.le_refl _) _
  have x1 : W1.heap[w.heap.size]? = some (.cells #[.nilIface, .int .i64 0] 69 (0, 0)) := by rw [← hW1]; exact heap_alloc_new _ _
  have x2 : W2.heap[w.heap.size]? = some (.cells #[.nilIface, .int .i64 0] 69 (0, 0)) := by rw [b2.block _ (Array.getElem?_eq_some_iff.1 x1).1]; exact x1
  have y2 : W2.heap[W1.heap.size]? = some (.cells #[.bool false] 4 (0, 0)) := by rw [← hW2]; exact heap_alloc_new _ _
  have hg2 : ErrT W2 := by
    have h1 := (b1.cell (World.block_lt_of_cell? _ _ hg)).trans hg
    exact (b2.cell (World.block_lt_of_cell? _ _ h1)).trans h1
  have hA : Hid (Calls Tryz.prog 80 #[.iface 69 (.agg #[.iface t u, .int .i64 num]), .iface 125 (.pointer (some ⟨w.heap.size, 0, none⟩))] W2 fun e w' => e = .returned (.bool true) ∧ ∃ w1, Below W2.heap.size W2 w1 ∧ w1.heap[w.heap.size]? = some (.cells #[.nilIface, .int .i64 0] 69 (0, 0)) ∧ w' = (w1.setCell ⟨w.heap.size, 0, none⟩ (.iface t u)).setCell ⟨w.heap.size, 1, none⟩ (.int .i64 num)) := as_hit w.heap.size t u _ _ num W2 hg2 x2
  have hmf : ∀ (fn : Fn) (first cap : Array Value) (w : World), (Instr.makeFunc fn first cap).run Tryz.prog w = .ok (.func fn first cap) w := fun _ _ _ _ => rfl
  have hlt1 : w.heap.size < W1.heap.size := (Array.getElem?_eq_some_iff.1 x1).1
  have hB2 : Hid (Below w.heap.size w W2 ∧ W1.heap.size < W2.heap.size) := ⟨b1.trans (b2.mono b1.size), (Array.getElem?_eq_some_iff.1 y2).1⟩
  have y2' : Hid (W2.heap[W1.heap.size]? = some (.cells #[.bool false] 4 (0, 0))) := y2
  have hlt1' : Hid (w.heap.size < W1.heap.size) := hlt1
  clear b1 b2 x1 x2 hg2 hg hlt1 y2
  go_enter_defers Tryz.func49, Tryz.ntmps49
  go_wp2_with fail
  refine hA.out.mono ?_
  rintro e w' ⟨rfl, w1, hb1, hx, rfl⟩
  obtain ⟨W3, hW3⟩ : ∃ W3, (w1.setCell ⟨w.heap.size, 0, none⟩ (.iface t u)).setCell ⟨w.heap.size, 1, none⟩ (.int .i64 num) = W3 := ⟨_, rfl⟩
  have hs3 : W3.heap.size = w1.heap.size := by rw [← hW3]; simp only [World.size_setCell]
  have h3 : W3.heap[w.heap.size]? = some (.cells #[.iface t u, .int .i64 num] 69 (0, 0)) := by
    have e1 := Go.heap_setCell_same w1 w.heap.size 0 _ _ (.iface t u) hx
    have e2 := Go.heap_setCell_same _ w.heap.size 1 _ _ (.int .i64 num) e1
    rw [← hW3, e2]
    rfl
  have hB3 : Hid (Below w.heap.size w W3) := by
    have h1 : Below w.heap.size w w1 := hB2.out.1.trans (hb1.mono hB2.out.1.size)
    rw [← hW3]
    exact (h1.setCell (p := ⟨w.heap.size, 0, none⟩) (Nat.le_refl _) _).setCell (p := ⟨w.heap.size, 1, none⟩) (Nat.le_refl _) _
  have k3 : W3.heap[W1.heap.size]? = some (.cells #[.bool false] 4 (0, 0)) := by
    have hne : W1.heap.size ≠ w.heap.size := by have := hlt1'.out; omega
    rw [← hW3, Below.heap_setCell _ _ _ _ hne, Below.heap_setCell _ _ _ _ hne, hb1.block _ hB2.out.2]
    exact y2'.out
  have a0 : W3.cell? ⟨W1.heap.size, 0, none⟩ = some (.bool false) := by rw [cell_of_row _ _ _ _ _ _ k3]; rfl
  have z0 : W3.frozen? ⟨W1.heap.size, 0, none⟩ = false := Go.frozen_of_row _ _ _ _ _ k3
  obtain ⟨W4, hW4⟩ : ∃ W4, W3.setCell ⟨W1.heap.size, 0, none⟩ (.bool true) = W4 := ⟨_, rfl⟩
  have h4 : W4.heap[w.heap.size]? = some (.cells #[.iface t u, .int .i64 num] 69 (0, 0)) := by
    rw [← hW4, Below.heap_setCell _ _ _ _ (by have := hlt1'.out; show w.heap.size ≠ W1.heap.size; omega)]
    exact h3
  have k4 : W4.heap[W1.heap.size]? = some (.cells #[.bool true] 4 (0, 0)) := by
    rw [← hW4, Go.heap_setCell_same _ _ 0 _ _ _ k3]
    rfl
  have hB4 : Hid (Below w.heap.size w W4) := by
    rw [← hW4]
    exact hB3.out.setCell (p := ⟨W1.heap.size, 0, none⟩) (Nat.le_of_lt hlt1'.out) _
  have d0 : W4.cell? ⟨w.heap.size, 0, none⟩ = some (.iface t u) := by rw [cell_of_row _ _ _ _ _ _ h4]; rfl
  have d1 : W4.cell? ⟨w.heap.size, 1, none⟩ = some (.int .i64 num) := by rw [cell_of_row _ _ _ _ _ _ h4]; rfl
  have d2 : W4.cell? ⟨W1.heap.size, 0, none⟩ = some (.bool true) := by rw [cell_of_row _ _ _ _ _ _ k4]; rfl
  have z1 : W4.frozen? ⟨w.heap.size, 0, none⟩ = false := Go.frozen_of_row _ _ _ _ _ h4
  have z2 : W4.frozen? ⟨w.heap.size, 1, none⟩ = false := Go.frozen_of_row _ _ _ _ _ h4
  have z3 : W4.frozen? ⟨W1.heap.size, 0, none⟩ = false := Go.frozen_of_row _ _ _ _ _ k4
  have hne : W1.heap.size ≠ w.heap.size := by have := hlt1'.out; omega
  have e1 : (W4.setCell ⟨w.heap.size, 0, none⟩ (.iface t u)).cell? ⟨W1.heap.size, 0, none⟩ = some (.bool true) := by
    rw [← d2]; unfold World.cell?; rw [Below.heap_setCell _ _ _ _ hne]
  obtain ⟨W5, hW5⟩ : ∃ W5, ((W4.setCell ⟨w.heap.size, 0, none⟩ (.iface t u)).setCell ⟨w.heap.size, 1, none⟩ (.int .i64 num)).setCell ⟨W1.heap.size, 0, none⟩ (.bool true) = W5 := ⟨_, rfl⟩
  have h5 : W5.heap[w.heap.size]? = some (.cells #[.iface t u, .int .i64 num] 69 (0, 0)) := by
    have q1 := Go.heap_setCell_same W4 w.heap.size 0 _ _ (.iface t u) h4
    have q2 := Go.heap_setCell_same _ w.heap.size 1 _ _ (.int .i64 num) q1
    rw [← hW5, Below.heap_setCell _ _ _ _ (fun e => hne e.symm), q2]
    rfl
  have k5 : W5.heap[W1.heap.size]? = some (.cells #[.bool true] 4 (0, 0)) := by
    have q1 : ((W4.setCell ⟨w.heap.size, 0, none⟩ (.iface t u)).setCell ⟨w.heap.size, 1, none⟩ (.int .i64 num)).heap[W1.heap.size]? = some (.cells #[.bool true] 4 (0, 0)) := by
      rw [Below.heap_setCell _ _ _ _ hne, Below.heap_setCell _ _ _ _ hne]
      exact k4
    rw [← hW5, Go.heap_setCell_same _ _ 0 _ _ _ q1]
    rfl
  have hB5 : Hid (Below w.heap.size w W5.drew) := by
    have q := ((hB4.out.setCell (p := ⟨w.heap.size, 0, none⟩) (Nat.le_refl _) (.iface t u)).setCell (p := ⟨w.heap.size, 1, none⟩) (Nat.le_refl _) (.int .i64 num)).setCell (p := ⟨W1.heap.size, 0, none⟩) (Nat.le_of_lt hlt1'.out) (.bool true)
    rw [hW5] at q
    exact q.trans ⟨rfl, rfl, rfl, Nat.le_refl _, fun _ _ => rfl⟩
  have m0 : W5.cell? ⟨w.heap.size, 0, none⟩ = some (.iface t u) := by rw [cell_of_row _ _ _ _ _ _ h5]; rfl
  have m1 : W5.cell? ⟨w.heap.size, 1, none⟩ = some (.int .i64 num) := by rw [cell_of_row _ _ _ _ _ _ h5]; rfl
  have m2 : W5.cell? ⟨W1.heap.size, 0, none⟩ = some (.bool true) := by rw [cell_of_row _ _ _ _ _ _ k5]; rfl
  clear hb1 hx hs3 h3 k3 hB3 hA hne h5 k5 h4 k4
  rw [hW3]
  go_wp2_with fail
  go_region
  go_wp2_with fail
  refine leaves_cons (f := 79) (args := #[.pointer (some ⟨w.heap.size, 0, none⟩), .pointer (some ⟨W1.heap.size, 0, none⟩)]) (by simp) (by simp [go_sem]) ?_
  refine (find1_idle _ _ _).mono ?_
  rintro e u' w'' ⟨rfl, rfl, rfl⟩
  simp [Leaves, settle, results, Tryz.results49, go_sem, m0, m1, m2]
  exact hB5.out
end Ke
end Go.Proofs.YtkknenmpdimdbaaGreatDoor
