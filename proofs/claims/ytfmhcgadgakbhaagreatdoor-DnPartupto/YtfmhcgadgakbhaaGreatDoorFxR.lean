import Derived.Test.YtfmhcgadgakbhaaGreatDoorKfB
import Derived.Deep.RegionHeld3
import Derived.Deep.RegionHeldLaw
namespace Go.Proofs.YtfmhcgadgakbhaaGreatDoor
namespace Ke
open Go.RowKit Go.Extern.Stop Go.Stop Go.Extern
set_option linter.unusedVariables false
set_option linter.unusedSimpArgs false
set_option maxRecDepth 100000

set_option maxHeartbeats 1000000 in
theorem find1_idle (p q : Value) (w : World) : CallsD Tryz.prog 58 #[p, q] .returning w fun e u' w' => e = .returned (.tuple #[]) ∧ u' = .returning ∧ w' = w := by
  refine callsD_of_wpS Tryz.func58 rfl fun c₀ cs hu => ?_
  apply wpS_seq
  apply wpS_region
  simp [wpOpsS, go_sem, recoverD, hu, Tryz.ntmps58]
  show Code.wpS _ _ _ _ _ _
  refine wpS_cond (t := false) (by rfl) ?_
  rw [if_neg (by decide)]
  refine wpS_of_wp ?_
  refine wp_skip ?_
  cases c₀
  simp_all [go_sem, bodyPostS, results, Tryz.results58]

set_option maxHeartbeats 4000000 in
theorem find_any (t : TypeId) (u : Value) (num : Int) (w : World) (hg : ErrT w) :
    Calls Tryz.prog 37 #[.iface 70 (.agg #[.iface t u, .int .i64 num])] w fun e w' => e = .returned (.tuple #[.agg #[.iface t u, .int .i64 num], .bool true]) ∧ Below w.heap.size w w' := by
  obtain ⟨W1, hW1⟩ : ∃ W1, w.alloc (.cells #[.nilIface, .int .i64 0] 70) = W1 := ⟨_, rfl⟩
  obtain ⟨W2, hW2⟩ : ∃ W2, W1.alloc (.cells #[.bool false] 4) = W2 := ⟨_, rfl⟩
  have b1 : Below w.heap.size w W1 := by rw [← hW1]; exact (Below.refl _ _).alloc (Nat.le_refl _) _
  have b2 : Below W1.heap.size W1 W2 := by rw [← hW2]; exact (Below.refl _ _).alloc (Nat.le_refl _) _
  have x1 : W1.heap[w.heap.size]? = some (.cells #[.nilIface, .int .i64 0] 70 (0, 0)) := by rw [← hW1]; exact heap_alloc_new _ _
  have x2 : W2.heap[w.heap.size]? = some (.cells #[.nilIface, .int .i64 0] 70 (0, 0)) := by rw [b2.block _ (Array.getElem?_eq_some_iff.1 x1).1]; exact x1
  have y2 : W2.heap[W1.heap.size]? = some (.cells #[.bool false] 4 (0, 0)) := by rw [← hW2]; exact heap_alloc_new _ _
  have hg2 : ErrT W2 := by
    have h1 := (b1.cell (World.block_lt_of_cell? _ _ hg)).trans hg
    exact (b2.cell (World.block_lt_of_cell? _ _ h1)).trans h1
  have hA : Hid (Calls Tryz.prog 59 #[.iface 70 (.agg #[.iface t u, .int .i64 num]), .iface 91 (.pointer (some ⟨w.heap.size, 0, none⟩))] W2 fun e w' => e = .returned (.bool true) ∧ ∃ w1, Below W2.heap.size W2 w1 ∧ w1.heap[w.heap.size]? = some (.cells #[.nilIface, .int .i64 0] 70 (0, 0)) ∧ w' = (w1.setCell ⟨w.heap.size, 0, none⟩ (.iface t u)).setCell ⟨w.heap.size, 1, none⟩ (.int .i64 num)) := as_hit w.heap.size t u _ _ num W2 hg2 x2
  have hmf : ∀ (fn : Fn) (first cap : Array Value) (w : World), (Instr.makeFunc fn first cap).run Tryz.prog w = .ok (.func fn first cap) w := fun _ _ _ _ => rfl
  have hlt1 : w.heap.size < W1.heap.size := (Array.getElem?_eq_some_iff.1 x1).1
  have hB2 : Hid (Below w.heap.size w W2 ∧ W1.heap.size < W2.heap.size) := ⟨b1.trans (b2.mono b1.size), (Array.getElem?_eq_some_iff.1 y2).1⟩
  have y2' : Hid (W2.heap[W1.heap.size]? = some (.cells #[.bool false] 4 (0, 0))) := y2
  have hlt1' : Hid (w.heap.size < W1.heap.size) := hlt1
  clear b1 b2 x1 x2 hg2 hg hlt1 y2
  go_enter_defers Tryz.func37, Tryz.ntmps37
  go_wp2_with fail
  refine hA.out.mono ?_
  rintro e w' ⟨rfl, w1, hb1, hx, rfl⟩
  obtain ⟨W3, hW3⟩ : ∃ W3, (w1.setCell ⟨w.heap.size, 0, none⟩ (.iface t u)).setCell ⟨w.heap.size, 1, none⟩ (.int .i64 num) = W3 := ⟨_, rfl⟩
  have hs3 : W3.heap.size = w1.heap.size := by rw [← hW3]; simp only [World.size_setCell]
  have h3 : W3.heap[w.heap.size]? = some (.cells #[.iface t u, .int .i64 num] 70 (0, 0)) := by
    have e1 := Go.heap_setCell_same w1 w.heap.size 0 _ _ (.iface t u) hx
    have e2 := Go.heap_setCell_same _ w.heap.size 1 _ _ (.int .i64 num) e1
    rw [← hW3, e2]
    rfl
  have hB3 : Hid (Below w.heap.size w W3) := by
    have h1 : Below w.heap.size w w1 := hB2.out.1.trans (hb1.mono hB2.out.1.size)
    rw [← hW3]
    exact (h1.setCell (p := ⟨w.heap.size, 0, none⟩) (Nat.le_refl _) _).setCell (p := ⟨w.heap.size, 1, none⟩) (Nat.le_refl _) _
  have k3 : W3.heap[W1.heap.size]? = some (.cells #[.bool false] 4 (0, 0)) := by
    have hne : W1.heap.size ≠ w.heap.size := by have := hlt1'.out; omega
    rw [← hW3, Below.heap_setCell _ _ _ _ hne, Below.heap_setCell _ _ _ _ hne, hb1.block _ hB2.out.2]
    exact y2'.out
  have a0 : W3.cell? ⟨W1.heap.size, 0, none⟩ = some (.bool false) := by rw [cell_of_row _ _ _ _ _ _ k3]; rfl
  have z0 : W3.frozen? ⟨W1.heap.size, 0, none⟩ = false := Go.frozen_of_row _ _ _ _ _ k3
  obtain ⟨W4, hW4⟩ : ∃ W4, W3.setCell ⟨W1.heap.size, 0, none⟩ (.bool true) = W4 := ⟨_, rfl⟩
  have h4 : W4.heap[w.heap.size]? = some (.cells #[.iface t u, .int .i64 num] 70 (0, 0)) := by
    rw [← hW4, Below.heap_setCell _ _ _ _ (by have := hlt1'.out; show w.heap.size ≠ W1.heap.size; omega)]
    exact h3
  have k4 : W4.heap[W1.heap.size]? = some (.cells #[.bool true] 4 (0, 0)) := by
    rw [← hW4, Go.heap_setCell_same _ _ 0 _ _ _ k3]
    rfl
  have hB4 : Hid (Below w.heap.size w W4) := by
    rw [← hW4]
    exact hB3.out.setCell (p := ⟨W1.heap.size, 0, none⟩) (Nat.le_of_lt hlt1'.out) _
  have d0 : W4.cell? ⟨w.heap.size, 0, none⟩ = some (.iface t u) := by rw [cell_of_row _ _ _ _ _ _ h4]; rfl
  have d1 : W4.cell? ⟨w.heap.size, 1, none⟩ = some (.int .i64 num) := by rw [cell_of_row _ _ _ _ _ _ h4]; rfl
  have d2 : W4.cell? ⟨W1.heap.size, 0, none⟩ = some (.bool true) := by rw [cell_of_row _ _ _ _ _ _ k4]; rfl
  have z1 : W4.frozen? ⟨w.heap.size, 0, none⟩ = false := Go.frozen_of_row _ _ _ _ _ h4
  have z2 : W4.frozen? ⟨w.heap.size, 1, none⟩ = false := Go.frozen_of_row _ _ _ _ _ h4
  have z3 : W4.frozen? ⟨W1.heap.size, 0, none⟩ = false := Go.frozen_of_row _ _ _ _ _ k4
  have hne : W1.heap.size ≠ w.heap.size := by have := hlt1'.out; omega
  have e1 : (W4.setCell ⟨w.heap.size, 0, none⟩ (.iface t u)).cell? ⟨W1.heap.size, 0, none⟩ = some (.bool true) := by
    rw [← d2]; unfold World.cell?; rw [Below.heap_setCell _ _ _ _ hne]
  obtain ⟨W5, hW5⟩ : ∃ W5, ((W4.setCell ⟨w.heap.size, 0, none⟩ (.iface t u)).setCell ⟨w.heap.size, 1, none⟩ (.int .i64 num)).setCell ⟨W1.heap.size, 0, none⟩ (.bool true) = W5 := ⟨_, rfl⟩
  have h5 : W5.heap[w.heap.size]? = some (.cells #[.iface t u, .int .i64 num] 70 (0, 0)) := by
    have q1 := Go.heap_setCell_same W4 w.heap.size 0 _ _ (.iface t u) h4
    have q2 := Go.heap_setCell_same _ w.heap.size 1 _ _ (.int .i64 num) q1
    rw [← hW5, Below.heap_setCell _ _ _ _ (fun e => hne e.symm), q2]
    rfl
  have k5 : W5.heap[W1.heap.size]? = some (.cells #[.bool true] 4 (0, 0)) := by
    have q1 : ((W4.setCell ⟨w.heap.size, 0, none⟩ (.iface t u)).setCell ⟨w.heap.size, 1, none⟩ (.int .i64 num)).heap[W1.heap.size]? = some (.cells #[.bool true] 4 (0, 0)) := by
      rw [Below.heap_setCell _ _ _ _ hne, Below.heap_setCell _ _ _ _ hne]
      exact k4
    rw [← hW5, Go.heap_setCell_same _ _ 0 _ _ _ q1]
    rfl
  have hB5 : Hid (Below w.heap.size w W5.drew) := by
    have q := ((hB4.out.setCell (p := ⟨w.heap.size, 0, none⟩) (Nat.le_refl _) (.iface t u)).setCell (p := ⟨w.heap.size, 1, none⟩) (Nat.le_refl _) (.int .i64 num)).setCell (p := ⟨W1.heap.size, 0, none⟩) (Nat.le_of_lt hlt1'.out) (.bool true)
    rw [hW5] at q
    exact q.trans ⟨rfl, rfl, rfl, Nat.le_refl _, fun _ _ => rfl⟩
  have m0 : W5.cell? ⟨w.heap.size, 0, none⟩ = some (.iface t u) := by rw [cell_of_row _ _ _ _ _ _ h5]; rfl
  have m1 : W5.cell? ⟨w.heap.size, 1, none⟩ = some (.int .i64 num) := by rw [cell_of_row _ _ _ _ _ _ h5]; rfl
  have m2 : W5.cell? ⟨W1.heap.size, 0, none⟩ = some (.bool true) := by rw [cell_of_row _ _ _ _ _ _ k5]; rfl
  clear hb1 hx hs3 h3 k3 hB3 hA hne h5 k5 h4 k4
  rw [hW3]
  go_wp2_with fail
  go_region
  go_wp2_with fail
  refine leaves_cons (f := 58) (args := #[.pointer (some ⟨w.heap.size, 0, none⟩), .pointer (some ⟨W1.heap.size, 0, none⟩)]) (by simp) (by simp [go_sem]) ?_
  refine (find1_idle _ _ _).mono ?_
  rintro e u' w'' ⟨rfl, rfl, rfl⟩
  simp [Leaves, settle, results, Tryz.results37, go_sem, m0, m1, m2]
  exact hB5.out
end Ke
end Go.Proofs.YtfmhcgadgakbhaaGreatDoor

namespace Go.Proofs.YtfmhcgadgakbhaaGreatDoor
namespace Ke
open Go.RowKit
set_option linter.unusedVariables false
set_option linter.unusedSimpArgs false
set_option maxRecDepth 100000

/-- The ten reasons: the variable of each number. -/
def SenL : List (Nat × Nat) := [(50, 4), (51, 3), (52, 5), (53, 6), (54, 7), (55, 8), (56, 9), (57, 2), (58, 0), (59, 1)]
/-- Each variable holds a pointer of its own. -/
def Sen (ad : Nat → Addr) (W : World) : Prop :=
  (∀ x ∈ SenL, W.cell? ⟨x.2, 0, none⟩ = some (.iface 176 (.pointer (some (ad x.1)))) ∧ ∃ c t, W.heap[(ad x.1).block]? = some (.cells c t (0, 0))) ∧ (∀ x ∈ SenL, ∀ y ∈ SenL, x.1 ≠ y.1 → ad x.1 ≠ ad y.1)
theorem Sen.below {ad : Nat → Addr} {W W' : World} (h : Sen ad W) (hb : Below W.heap.size W W') : Sen ad W' := by
  refine ⟨fun x hx => ?_, h.2⟩
  obtain ⟨h1, c, t, h2⟩ := h.1 x hx
  exact ⟨(hb.cell (World.block_lt_of_cell? _ _ h1)).trans h1, c, t, by rw [hb.block _ (Array.getElem?_eq_some_iff.1 h2).1]; exact h2⟩
/-- A refusal with its reason by number. -/
def rfV (ad : Nat → Addr) (k : Nat) (num : Int) : Value := .agg #[.iface 176 (.pointer (some (ad k))), .int .i64 num]
theorem is_any {ad : Nat → Addr} {W : World} (h : Sen ad W) (x y : Nat × Nat) (hx : x ∈ SenL) (hy : y ∈ SenL) (num : Int) :
    Calls Tryz.prog 60 #[.iface 70 (.agg #[.iface 176 (.pointer (some (ad x.1))), .int .i64 num]), .iface 176 (.pointer (some (ad y.1)))] W fun e w' => e = .returned (.bool (decide (x.1 = y.1))) ∧ Below W.heap.size W w' := by
  by_cases e : x.1 = y.1
  · rw [e, decide_eq_true rfl]
    exact is_same _ _ _
  · rw [decide_eq_false e]
    obtain ⟨_, c, t, h2⟩ := h.1 x hx
    obtain ⟨_, c', t', h2'⟩ := h.1 y hy
    exact is_other _ _ _ _ _ _ _ _ (h.2 x hx y hy e) h2 h2'
set_option maxHeartbeats 4000000 in
theorem number_50 (ad : Nat → Addr) (num : Int) (w : World) (h : Sen ad w) :
    Calls Tryz.prog 38 #[.agg #[.iface 176 (.pointer (some (ad 50))), .int .i64 num]] w fun e w' => e = .returned (.int .i64 50) ∧ Below w.heap.size w w' := by
  obtain ⟨W0, hW0⟩ : ∃ W0, w.alloc (.cells #[.iface 176 (.pointer (some (ad 50))), .int .i64 num] 70) = W0 := ⟨_, rfl⟩
  have b0 : Below w.heap.size w W0 := by rw [← hW0]; exact (Below.refl _ _).alloc (Nat.le_refl _) _
  have x0 : W0.heap[w.heap.size]? = some (.cells #[.iface 176 (.pointer (some (ad 50))), .int .i64 num] 70 (0, 0)) := by rw [← hW0]; exact heap_alloc_new _ _
  have S0 : Hid (Sen ad W0 ∧ Below w.heap.size w W0 ∧ W0.heap[w.heap.size]? = some (.cells #[.iface 176 (.pointer (some (ad 50))), .int .i64 num] 70 (0, 0))) := ⟨h.below b0, b0, x0⟩
  have p0 : W0.cell? ⟨w.heap.size, 0, none⟩ = some (.iface 176 (.pointer (some (ad 50)))) := by rw [cell_of_row _ _ _ _ _ _ x0]; rfl
  have p1 : W0.cell? ⟨w.heap.size, 1, none⟩ = some (.int .i64 num) := by rw [cell_of_row _ _ _ _ _ _ x0]; rfl
  have p2 : W0.cell? ⟨4, 0, none⟩ = some (.iface 176 (.pointer (some (ad 50)))) := (S0.out.1.1 (50, 4) (by decide)).1
  clear b0 x0 h
  go_enter Tryz.func38, Tryz.ntmps38
  have c0 : Hid (Calls Tryz.prog 60 #[.iface 70 (.agg #[.iface 176 (.pointer (some (ad 50))), .int .i64 num]), .iface 176 (.pointer (some (ad 50)))] W0 fun e w' => e = .returned (.bool true) ∧ Below W0.heap.size W0 w') := is_any S0.out.1 (50, 4) (50, 4) (by decide) (by decide) num
  go_wp2_with fail
  refine c0.out.mono ?_
  rintro e W1 ⟨rfl, hb⟩
  have hfin : Hid (Below w.heap.size w W1) := S0.out.2.1.trans (hb.mono S0.out.2.1.size)
  clear hb c0 S0
  go_wp2_with fail
  go_ret
  exact ⟨rfl, hfin.out⟩
set_option maxHeartbeats 4000000 in
theorem number_51 (ad : Nat → Addr) (num : Int) (w : World) (h : Sen ad w) :
    Calls Tryz.prog 38 #[.agg #[.iface 176 (.pointer (some (ad 51))), .int .i64 num]] w fun e w' => e = .returned (.int .i64 51) ∧ Below w.heap.size w w' := by
  obtain ⟨W0, hW0⟩ : ∃ W0, w.alloc (.cells #[.iface 176 (.pointer (some (ad 51))), .int .i64 num] 70) = W0 := ⟨_, rfl⟩
  have b0 : Below w.heap.size w W0 := by rw [← hW0]; exact (Below.refl _ _).alloc (Nat.le_refl _) _
  have x0 : W0.heap[w.heap.size]? = some (.cells #[.iface 176 (.pointer (some (ad 51))), .int .i64 num] 70 (0, 0)) := by rw [← hW0]; exact heap_alloc_new _ _
  have S0 : Hid (Sen ad W0 ∧ Below w.heap.size w W0 ∧ W0.heap[w.heap.size]? = some (.cells #[.iface 176 (.pointer (some (ad 51))), .int .i64 num] 70 (0, 0))) := ⟨h.below b0, b0, x0⟩
  have p0 : W0.cell? ⟨w.heap.size, 0, none⟩ = some (.iface 176 (.pointer (some (ad 51)))) := by rw [cell_of_row _ _ _ _ _ _ x0]; rfl
  have p1 : W0.cell? ⟨w.heap.size, 1, none⟩ = some (.int .i64 num) := by rw [cell_of_row _ _ _ _ _ _ x0]; rfl
  have p2 : W0.cell? ⟨4, 0, none⟩ = some (.iface 176 (.pointer (some (ad 50)))) := (S0.out.1.1 (50, 4) (by decide)).1
  clear b0 x0 h
  go_enter Tryz.func38, Tryz.ntmps38
  have c0 : Hid (Calls Tryz.prog 60 #[.iface 70 (.agg #[.iface 176 (.pointer (some (ad 51))), .int .i64 num]), .iface 176 (.pointer (some (ad 50)))] W0 fun e w' => e = .returned (.bool false) ∧ Below W0.heap.size W0 w') := is_any S0.out.1 (51, 3) (50, 4) (by decide) (by decide) num
  go_wp2_with fail
  refine c0.out.mono ?_
  rintro e W1 ⟨rfl, hb⟩
  have S1 : Hid (Sen ad W1 ∧ Below w.heap.size w W1 ∧ W1.heap[w.heap.size]? = some (.cells #[.iface 176 (.pointer (some (ad 51))), .int .i64 num] 70 (0, 0))) := ⟨S0.out.1.below hb, S0.out.2.1.trans (hb.mono S0.out.2.1.size), by rw [hb.block _ (Array.getElem?_eq_some_iff.1 S0.out.2.2).1]; exact S0.out.2.2⟩
  clear hb c0 S0 p0 p1 p2
  have p0 : W1.cell? ⟨w.heap.size, 0, none⟩ = some (.iface 176 (.pointer (some (ad 51)))) := by rw [cell_of_row _ _ _ _ _ _ S1.out.2.2]; rfl
  have p1 : W1.cell? ⟨w.heap.size, 1, none⟩ = some (.int .i64 num) := by rw [cell_of_row _ _ _ _ _ _ S1.out.2.2]; rfl
  have p2 : W1.cell? ⟨3, 0, none⟩ = some (.iface 176 (.pointer (some (ad 51)))) := (S1.out.1.1 (51, 3) (by decide)).1
  have c1 : Hid (Calls Tryz.prog 60 #[.iface 70 (.agg #[.iface 176 (.pointer (some (ad 51))), .int .i64 num]), .iface 176 (.pointer (some (ad 51)))] W1 fun e w' => e = .returned (.bool true) ∧ Below W1.heap.size W1 w') := is_any S1.out.1 (51, 3) (51, 3) (by decide) (by decide) num
  go_wp2_with fail
  refine c1.out.mono ?_
  rintro e W2 ⟨rfl, hb⟩
  have hfin : Hid (Below w.heap.size w W2) := S1.out.2.1.trans (hb.mono S1.out.2.1.size)
  clear hb c1 S1
  go_wp2_with fail
  go_ret
  exact ⟨rfl, hfin.out⟩
set_option maxHeartbeats 4000000 in
theorem number_57 (ad : Nat → Addr) (num : Int) (w : World) (h : Sen ad w) :
    Calls Tryz.prog 38 #[.agg #[.iface 176 (.pointer (some (ad 57))), .int .i64 num]] w fun e w' => e = .returned (.int .i64 57) ∧ Below w.heap.size w w' := by
  obtain ⟨W0, hW0⟩ : ∃ W0, w.alloc (.cells #[.iface 176 (.pointer (some (ad 57))), .int .i64 num] 70) = W0 := ⟨_, rfl⟩
  have b0 : Below w.heap.size w W0 := by rw [← hW0]; exact (Below.refl _ _).alloc (Nat.le_refl _) _
  have x0 : W0.heap[w.heap.size]? = some (.cells #[.iface 176 (.pointer (some (ad 57))), .int .i64 num] 70 (0, 0)) := by rw [← hW0]; exact heap_alloc_new _ _
  have S0 : Hid (Sen ad W0 ∧ Below w.heap.size w W0 ∧ W0.heap[w.heap.size]? = some (.cells #[.iface 176 (.pointer (some (ad 57))), .int .i64 num] 70 (0, 0))) := ⟨h.below b0, b0, x0⟩
  have p0 : W0.cell? ⟨w.heap.size, 0, none⟩ = some (.iface 176 (.pointer (some (ad 57)))) := by rw [cell_of_row _ _ _ _ _ _ x0]; rfl
  have p1 : W0.cell? ⟨w.heap.size, 1, none⟩ = some (.int .i64 num) := by rw [cell_of_row _ _ _ _ _ _ x0]; rfl
  have p2 : W0.cell? ⟨4, 0, none⟩ = some (.iface 176 (.pointer (some (ad 50)))) := (S0.out.1.1 (50, 4) (by decide)).1
  clear b0 x0 h
  go_enter Tryz.func38, Tryz.ntmps38
  have c0 : Hid (Calls Tryz.prog 60 #[.iface 70 (.agg #[.iface 176 (.pointer (some (ad 57))), .int .i64 num]), .iface 176 (.pointer (some (ad 50)))] W0 fun e w' => e = .returned (.bool false) ∧ Below W0.heap.size W0 w') := is_any S0.out.1 (57, 2) (50, 4) (by decide) (by decide) num
  go_wp2_with fail
  refine c0.out.mono ?_
  rintro e W1 ⟨rfl, hb⟩
  have S1 : Hid (Sen ad W1 ∧ Below w.heap.size w W1 ∧ W1.heap[w.heap.size]? = some (.cells #[.iface 176 (.pointer (some (ad 57))), .int .i64 num] 70 (0, 0))) := ⟨S0.out.1.below hb, S0.out.2.1.trans (hb.mono S0.out.2.1.size), by rw [hb.block _ (Array.getElem?_eq_some_iff.1 S0.out.2.2).1]; exact S0.out.2.2⟩
  clear hb c0 S0 p0 p1 p2
  have p0 : W1.cell? ⟨w.heap.size, 0, none⟩ = some (.iface 176 (.pointer (some (ad 57)))) := by rw [cell_of_row _ _ _ _ _ _ S1.out.2.2]; rfl
  have p1 : W1.cell? ⟨w.heap.size, 1, none⟩ = some (.int .i64 num) := by rw [cell_of_row _ _ _ _ _ _ S1.out.2.2]; rfl
  have p2 : W1.cell? ⟨3, 0, none⟩ = some (.iface 176 (.pointer (some (ad 51)))) := (S1.out.1.1 (51, 3) (by decide)).1
  have c1 : Hid (Calls Tryz.prog 60 #[.iface 70 (.agg #[.iface 176 (.pointer (some (ad 57))), .int .i64 num]), .iface 176 (.pointer (some (ad 51)))] W1 fun e w' => e = .returned (.bool false) ∧ Below W1.heap.size W1 w') := is_any S1.out.1 (57, 2) (51, 3) (by decide) (by decide) num
  go_wp2_with fail
  refine c1.out.mono ?_
  rintro e W2 ⟨rfl, hb⟩
  have S2 : Hid (Sen ad W2 ∧ Below w.heap.size w W2 ∧ W2.heap[w.heap.size]? = some (.cells #[.iface 176 (.pointer (some (ad 57))), .int .i64 num] 70 (0, 0))) := ⟨S1.out.1.below hb, S1.out.2.1.trans (hb.mono S1.out.2.1.size), by rw [hb.block _ (Array.getElem?_eq_some_iff.1 S1.out.2.2).1]; exact S1.out.2.2⟩
  clear hb c1 S1 p0 p1 p2
  have p0 : W2.cell? ⟨w.heap.size, 0, none⟩ = some (.iface 176 (.pointer (some (ad 57)))) := by rw [cell_of_row _ _ _ _ _ _ S2.out.2.2]; rfl
  have p1 : W2.cell? ⟨w.heap.size, 1, none⟩ = some (.int .i64 num) := by rw [cell_of_row _ _ _ _ _ _ S2.out.2.2]; rfl
  have p2 : W2.cell? ⟨5, 0, none⟩ = some (.iface 176 (.pointer (some (ad 52)))) := (S2.out.1.1 (52, 5) (by decide)).1
  have c2 : Hid (Calls Tryz.prog 60 #[.iface 70 (.agg #[.iface 176 (.pointer (some (ad 57))), .int .i64 num]), .iface 176 (.pointer (some (ad 52)))] W2 fun e w' => e = .returned (.bool false) ∧ Below W2.heap.size W2 w') := is_any S2.out.1 (57, 2) (52, 5) (by decide) (by decide) num
  go_wp2_with fail
  refine c2.out.mono ?_
  rintro e W3 ⟨rfl, hb⟩
  have S3 : Hid (Sen ad W3 ∧ Below w.heap.size w W3 ∧ W3.heap[w.heap.size]? = some (.cells #[.iface 176 (.pointer (some (ad 57))), .int .i64 num] 70 (0, 0))) := ⟨S2.out.1.below hb, S2.out.2.1.trans (hb.mono S2.out.2.1.size), by rw [hb.block _ (Array.getElem?_eq_some_iff.1 S2.out.2.2).1]; exact S2.out.2.2⟩
  clear hb c2 S2 p0 p1 p2
  have p0 : W3.cell? ⟨w.heap.size, 0, none⟩ = some (.iface 176 (.pointer (some (ad 57)))) := by rw [cell_of_row _ _ _ _ _ _ S3.out.2.2]; rfl
  have p1 : W3.cell? ⟨w.heap.size, 1, none⟩ = some (.int .i64 num) := by rw [cell_of_row _ _ _ _ _ _ S3.out.2.2]; rfl
  have p2 : W3.cell? ⟨6, 0, none⟩ = some (.iface 176 (.pointer (some (ad 53)))) := (S3.out.1.1 (53, 6) (by decide)).1
  have c3 : Hid (Calls Tryz.prog 60 #[.iface 70 (.agg #[.iface 176 (.pointer (some (ad 57))), .int .i64 num]), .iface 176 (.pointer (some (ad 53)))] W3 fun e w' => e = .returned (.bool false) ∧ Below W3.heap.size W3 w') := is_any S3.out.1 (57, 2) (53, 6) (by decide) (by decide) num
  go_wp2_with fail
  refine c3.out.mono ?_
  rintro e W4 ⟨rfl, hb⟩
  have S4 : Hid (Sen ad W4 ∧ Below w.heap.size w W4 ∧ W4.heap[w.heap.size]? = some (.cells #[.iface 176 (.pointer (some (ad 57))), .int .i64 num] 70 (0, 0))) := ⟨S3.out.1.below hb, S3.out.2.1.trans (hb.mono S3.out.2.1.size), by rw [hb.block _ (Array.getElem?_eq_some_iff.1 S3.out.2.2).1]; exact S3.out.2.2⟩
  clear hb c3 S3 p0 p1 p2
  have p0 : W4.cell? ⟨w.heap.size, 0, none⟩ = some (.iface 176 (.pointer (some (ad 57)))) := by rw [cell_of_row _ _ _ _ _ _ S4.out.2.2]; rfl
  have p1 : W4.cell? ⟨w.heap.size, 1, none⟩ = some (.int .i64 num) := by rw [cell_of_row _ _ _ _ _ _ S4.out.2.2]; rfl
  have p2 : W4.cell? ⟨7, 0, none⟩ = some (.iface 176 (.pointer (some (ad 54)))) := (S4.out.1.1 (54, 7) (by decide)).1
  have c4 : Hid (Calls Tryz.prog 60 #[.iface 70 (.agg #[.iface 176 (.pointer (some (ad 57))), .int .i64 num]), .iface 176 (.pointer (some (ad 54)))] W4 fun e w' => e = .returned (.bool false) ∧ Below W4.heap.size W4 w') := is_any S4.out.1 (57, 2) (54, 7) (by decide) (by decide) num
  go_wp2_with fail
  refine c4.out.mono ?_
  rintro e W5 ⟨rfl, hb⟩
  have S5 : Hid (Sen ad W5 ∧ Below w.heap.size w W5 ∧ W5.heap[w.heap.size]? = some (.cells #[.iface 176 (.pointer (some (ad 57))), .int .i64 num] 70 (0, 0))) := ⟨S4.out.1.below hb, S4.out.2.1.trans (hb.mono S4.out.2.1.size), by rw [hb.block _ (Array.getElem?_eq_some_iff.1 S4.out.2.2).1]; exact S4.out.2.2⟩
  clear hb c4 S4 p0 p1 p2
  have p0 : W5.cell? ⟨w.heap.size, 0, none⟩ = some (.iface 176 (.pointer (some (ad 57)))) := by rw [cell_of_row _ _ _ _ _ _ S5.out.2.2]; rfl
  have p1 : W5.cell? ⟨w.heap.size, 1, none⟩ = some (.int .i64 num) := by rw [cell_of_row _ _ _ _ _ _ S5.out.2.2]; rfl
  have p2 : W5.cell? ⟨8, 0, none⟩ = some (.iface 176 (.pointer (some (ad 55)))) := (S5.out.1.1 (55, 8) (by decide)).1
  have c5 : Hid (Calls Tryz.prog 60 #[.iface 70 (.agg #[.iface 176 (.pointer (some (ad 57))), .int .i64 num]), .iface 176 (.pointer (some (ad 55)))] W5 fun e w' => e = .returned (.bool false) ∧ Below W5.heap.size W5 w') := is_any S5.out.1 (57, 2) (55, 8) (by decide) (by decide) num
  go_wp2_with fail
  refine c5.out.mono ?_
  rintro e W6 ⟨rfl, hb⟩
  have S6 : Hid (Sen ad W6 ∧ Below w.heap.size w W6 ∧ W6.heap[w.heap.size]? = some (.cells #[.iface 176 (.pointer (some (ad 57))), .int .i64 num] 70 (0, 0))) := ⟨S5.out.1.below hb, S5.out.2.1.trans (hb.mono S5.out.2.1.size), by rw [hb.block _ (Array.getElem?_eq_some_iff.1 S5.out.2.2).1]; exact S5.out.2.2⟩
  clear hb c5 S5 p0 p1 p2
  have p0 : W6.cell? ⟨w.heap.size, 0, none⟩ = some (.iface 176 (.pointer (some (ad 57)))) := by rw [cell_of_row _ _ _ _ _ _ S6.out.2.2]; rfl
  have p1 : W6.cell? ⟨w.heap.size, 1, none⟩ = some (.int .i64 num) := by rw [cell_of_row _ _ _ _ _ _ S6.out.2.2]; rfl
  have p2 : W6.cell? ⟨9, 0, none⟩ = some (.iface 176 (.pointer (some (ad 56)))) := (S6.out.1.1 (56, 9) (by decide)).1
  have c6 : Hid (Calls Tryz.prog 60 #[.iface 70 (.agg #[.iface 176 (.pointer (some (ad 57))), .int .i64 num]), .iface 176 (.pointer (some (ad 56)))] W6 fun e w' => e = .returned (.bool false) ∧ Below W6.heap.size W6 w') := is_any S6.out.1 (57, 2) (56, 9) (by decide) (by decide) num
  go_wp2_with fail
  refine c6.out.mono ?_
  rintro e W7 ⟨rfl, hb⟩
  have S7 : Hid (Sen ad W7 ∧ Below w.heap.size w W7 ∧ W7.heap[w.heap.size]? = some (.cells #[.iface 176 (.pointer (some (ad 57))), .int .i64 num] 70 (0, 0))) := ⟨S6.out.1.below hb, S6.out.2.1.trans (hb.mono S6.out.2.1.size), by rw [hb.block _ (Array.getElem?_eq_some_iff.1 S6.out.2.2).1]; exact S6.out.2.2⟩
  clear hb c6 S6 p0 p1 p2
  have p0 : W7.cell? ⟨w.heap.size, 0, none⟩ = some (.iface 176 (.pointer (some (ad 57)))) := by rw [cell_of_row _ _ _ _ _ _ S7.out.2.2]; rfl
  have p1 : W7.cell? ⟨w.heap.size, 1, none⟩ = some (.int .i64 num) := by rw [cell_of_row _ _ _ _ _ _ S7.out.2.2]; rfl
  have p2 : W7.cell? ⟨2, 0, none⟩ = some (.iface 176 (.pointer (some (ad 57)))) := (S7.out.1.1 (57, 2) (by decide)).1
  have c7 : Hid (Calls Tryz.prog 60 #[.iface 70 (.agg #[.iface 176 (.pointer (some (ad 57))), .int .i64 num]), .iface 176 (.pointer (some (ad 57)))] W7 fun e w' => e = .returned (.bool true) ∧ Below W7.heap.size W7 w') := is_any S7.out.1 (57, 2) (57, 2) (by decide) (by decide) num
  go_wp2_with fail
  refine c7.out.mono ?_
  rintro e W8 ⟨rfl, hb⟩
  have hfin : Hid (Below w.heap.size w W8) := S7.out.2.1.trans (hb.mono S7.out.2.1.size)
  clear hb c7 S7
  go_wp2_with fail
  go_ret
  exact ⟨rfl, hfin.out⟩
set_option maxHeartbeats 4000000 in
theorem number_58 (ad : Nat → Addr) (num : Int) (w : World) (h : Sen ad w) :
    Calls Tryz.prog 38 #[.agg #[.iface 176 (.pointer (some (ad 58))), .int .i64 num]] w fun e w' => e = .returned (.int .i64 58) ∧ Below w.heap.size w w' := by
  obtain ⟨W0, hW0⟩ : ∃ W0, w.alloc (.cells #[.iface 176 (.pointer (some (ad 58))), .int .i64 num] 70) = W0 := ⟨_, rfl⟩
  have b0 : Below w.heap.size w W0 := by rw [← hW0]; exact (Below.refl _ _).alloc (Nat.le_refl _) _
  have x0 : W0.heap[w.heap.size]? = some (.cells #[.iface 176 (.pointer (some (ad 58))), .int .i64 num] 70 (0, 0)) := by rw [← hW0]; exact heap_alloc_new _ _
  have S0 : Hid (Sen ad W0 ∧ Below w.heap.size w W0 ∧ W0.heap[w.heap.size]? = some (.cells #[.iface 176 (.pointer (some (ad 58))), .int .i64 num] 70 (0, 0))) := ⟨h.below b0, b0, x0⟩
  have p0 : W0.cell? ⟨w.heap.size, 0, none⟩ = some (.iface 176 (.pointer (some (ad 58)))) := by rw [cell_of_row _ _ _ _ _ _ x0]; rfl
  have p1 : W0.cell? ⟨w.heap.size, 1, none⟩ = some (.int .i64 num) := by rw [cell_of_row _ _ _ _ _ _ x0]; rfl
  have p2 : W0.cell? ⟨4, 0, none⟩ = some (.iface 176 (.pointer (some (ad 50)))) := (S0.out.1.1 (50, 4) (by decide)).1
  clear b0 x0 h
  go_enter Tryz.func38, Tryz.ntmps38
  have c0 : Hid (Calls Tryz.prog 60 #[.iface 70 (.agg #[.iface 176 (.pointer (some (ad 58))), .int .i64 num]), .iface 176 (.pointer (some (ad 50)))] W0 fun e w' => e = .returned (.bool false) ∧ Below W0.heap.size W0 w') := is_any S0.out.1 (58, 0) (50, 4) (by decide) (by decide) num
  go_wp2_with fail
  refine c0.out.mono ?_
  rintro e W1 ⟨rfl, hb⟩
  have S1 : Hid (Sen ad W1 ∧ Below w.heap.size w W1 ∧ W1.heap[w.heap.size]? = some (.cells #[.iface 176 (.pointer (some (ad 58))), .int .i64 num] 70 (0, 0))) := ⟨S0.out.1.below hb, S0.out.2.1.trans (hb.mono S0.out.2.1.size), by rw [hb.block _ (Array.getElem?_eq_some_iff.1 S0.out.2.2).1]; exact S0.out.2.2⟩
  clear hb c0 S0 p0 p1 p2
  have p0 : W1.cell? ⟨w.heap.size, 0, none⟩ = some (.iface 176 (.pointer (some (ad 58)))) := by rw [cell_of_row _ _ _ _ _ _ S1.out.2.2]; rfl
  have p1 : W1.cell? ⟨w.heap.size, 1, none⟩ = some (.int .i64 num) := by rw [cell_of_row _ _ _ _ _ _ S1.out.2.2]; rfl
  have p2 : W1.cell? ⟨3, 0, none⟩ = some (.iface 176 (.pointer (some (ad 51)))) := (S1.out.1.1 (51, 3) (by decide)).1
  have c1 : Hid (Calls Tryz.prog 60 #[.iface 70 (.agg #[.iface 176 (.pointer (some (ad 58))), .int .i64 num]), .iface 176 (.pointer (some (ad 51)))] W1 fun e w' => e = .returned (.bool false) ∧ Below W1.heap.size W1 w') := is_any S1.out.1 (58, 0) (51, 3) (by decide) (by decide) num
  go_wp2_with fail
  refine c1.out.mono ?_
  rintro e W2 ⟨rfl, hb⟩
  have S2 : Hid (Sen ad W2 ∧ Below w.heap.size w W2 ∧ W2.heap[w.heap.size]? = some (.cells #[.iface 176 (.pointer (some (ad 58))), .int .i64 num] 70 (0, 0))) := ⟨S1.out.1.below hb, S1.out.2.1.trans (hb.mono S1.out.2.1.size), by rw [hb.block _ (Array.getElem?_eq_some_iff.1 S1.out.2.2).1]; exact S1.out.2.2⟩
  clear hb c1 S1 p0 p1 p2
  have p0 : W2.cell? ⟨w.heap.size, 0, none⟩ = some (.iface 176 (.pointer (some (ad 58)))) := by rw [cell_of_row _ _ _ _ _ _ S2.out.2.2]; rfl
  have p1 : W2.cell? ⟨w.heap.size, 1, none⟩ = some (.int .i64 num) := by rw [cell_of_row _ _ _ _ _ _ S2.out.2.2]; rfl
  have p2 : W2.cell? ⟨5, 0, none⟩ = some (.iface 176 (.pointer (some (ad 52)))) := (S2.out.1.1 (52, 5) (by decide)).1
  have c2 : Hid (Calls Tryz.prog 60 #[.iface 70 (.agg #[.iface 176 (.pointer (some (ad 58))), .int .i64 num]), .iface 176 (.pointer (some (ad 52)))] W2 fun e w' => e = .returned (.bool false) ∧ Below W2.heap.size W2 w') := is_any S2.out.1 (58, 0) (52, 5) (by decide) (by decide) num
  go_wp2_with fail
  refine c2.out.mono ?_
  rintro e W3 ⟨rfl, hb⟩
  have S3 : Hid (Sen ad W3 ∧ Below w.heap.size w W3 ∧ W3.heap[w.heap.size]? = some (.cells #[.iface 176 (.pointer (some (ad 58))), .int .i64 num] 70 (0, 0))) := ⟨S2.out.1.below hb, S2.out.2.1.trans (hb.mono S2.out.2.1.size), by rw [hb.block _ (Array.getElem?_eq_some_iff.1 S2.out.2.2).1]; exact S2.out.2.2⟩
  clear hb c2 S2 p0 p1 p2
  have p0 : W3.cell? ⟨w.heap.size, 0, none⟩ = some (.iface 176 (.pointer (some (ad 58)))) := by rw [cell_of_row _ _ _ _ _ _ S3.out.2.2]; rfl
  have p1 : W3.cell? ⟨w.heap.size, 1, none⟩ = some (.int .i64 num) := by rw [cell_of_row _ _ _ _ _ _ S3.out.2.2]; rfl
  have p2 : W3.cell? ⟨6, 0, none⟩ = some (.iface 176 (.pointer (some (ad 53)))) := (S3.out.1.1 (53, 6) (by decide)).1
  have c3 : Hid (Calls Tryz.prog 60 #[.iface 70 (.agg #[.iface 176 (.pointer (some (ad 58))), .int .i64 num]), .iface 176 (.pointer (some (ad 53)))] W3 fun e w' => e = .returned (.bool false) ∧ Below W3.heap.size W3 w') := is_any S3.out.1 (58, 0) (53, 6) (by decide) (by decide) num
  go_wp2_with fail
  refine c3.out.mono ?_
  rintro e W4 ⟨rfl, hb⟩
  have S4 : Hid (Sen ad W4 ∧ Below w.heap.size w W4 ∧ W4.heap[w.heap.size]? = some (.cells #[.iface 176 (.pointer (some (ad 58))), .int .i64 num] 70 (0, 0))) := ⟨S3.out.1.below hb, S3.out.2.1.trans (hb.mono S3.out.2.1.size), by rw [hb.block _ (Array.getElem?_eq_some_iff.1 S3.out.2.2).1]; exact S3.out.2.2⟩
  clear hb c3 S3 p0 p1 p2
  have p0 : W4.cell? ⟨w.heap.size, 0, none⟩ = some (.iface 176 (.pointer (some (ad 58)))) := by rw [cell_of_row _ _ _ _ _ _ S4.out.2.2]; rfl
  have p1 : W4.cell? ⟨w.heap.size, 1, none⟩ = some (.int .i64 num) := by rw [cell_of_row _ _ _ _ _ _ S4.out.2.2]; rfl
  have p2 : W4.cell? ⟨7, 0, none⟩ = some (.iface 176 (.pointer (some (ad 54)))) := (S4.out.1.1 (54, 7) (by decide)).1
  have c4 : Hid (Calls Tryz.prog 60 #[.iface 70 (.agg #[.iface 176 (.pointer (some (ad 58))), .int .i64 num]), .iface 176 (.pointer (some (ad 54)))] W4 fun e w' => e = .returned (.bool false) ∧ Below W4.heap.size W4 w') := is_any S4.out.1 (58, 0) (54, 7) (by decide) (by decide) num
  go_wp2_with fail
  refine c4.out.mono ?_
  rintro e W5 ⟨rfl, hb⟩
  have S5 : Hid (Sen ad W5 ∧ Below w.heap.size w W5 ∧ W5.heap[w.heap.size]? = some (.cells #[.iface 176 (.pointer (some (ad 58))), .int .i64 num] 70 (0, 0))) := ⟨S4.out.1.below hb, S4.out.2.1.trans (hb.mono S4.out.2.1.size), by rw [hb.block _ (Array.getElem?_eq_some_iff.1 S4.out.2.2).1]; exact S4.out.2.2⟩
  clear hb c4 S4 p0 p1 p2
  have p0 : W5.cell? ⟨w.heap.size, 0, none⟩ = some (.iface 176 (.pointer (some (ad 58)))) := by rw [cell_of_row _ _ _ _ _ _ S5.out.2.2]; rfl
  have p1 : W5.cell? ⟨w.heap.size, 1, none⟩ = some (.int .i64 num) := by rw [cell_of_row _ _ _ _ _ _ S5.out.2.2]; rfl
  have p2 : W5.cell? ⟨8, 0, none⟩ = some (.iface 176 (.pointer (some (ad 55)))) := (S5.out.1.1 (55, 8) (by decide)).1
  have c5 : Hid (Calls Tryz.prog 60 #[.iface 70 (.agg #[.iface 176 (.pointer (some (ad 58))), .int .i64 num]), .iface 176 (.pointer (some (ad 55)))] W5 fun e w' => e = .returned (.bool false) ∧ Below W5.heap.size W5 w') := is_any S5.out.1 (58, 0) (55, 8) (by decide) (by decide) num
  go_wp2_with fail
  refine c5.out.mono ?_
  rintro e W6 ⟨rfl, hb⟩
  have S6 : Hid (Sen ad W6 ∧ Below w.heap.size w W6 ∧ W6.heap[w.heap.size]? = some (.cells #[.iface 176 (.pointer (some (ad 58))), .int .i64 num] 70 (0, 0))) := ⟨S5.out.1.below hb, S5.out.2.1.trans (hb.mono S5.out.2.1.size), by rw [hb.block _ (Array.getElem?_eq_some_iff.1 S5.out.2.2).1]; exact S5.out.2.2⟩
  clear hb c5 S5 p0 p1 p2
  have p0 : W6.cell? ⟨w.heap.size, 0, none⟩ = some (.iface 176 (.pointer (some (ad 58)))) := by rw [cell_of_row _ _ _ _ _ _ S6.out.2.2]; rfl
  have p1 : W6.cell? ⟨w.heap.size, 1, none⟩ = some (.int .i64 num) := by rw [cell_of_row _ _ _ _ _ _ S6.out.2.2]; rfl
  have p2 : W6.cell? ⟨9, 0, none⟩ = some (.iface 176 (.pointer (some (ad 56)))) := (S6.out.1.1 (56, 9) (by decide)).1
  have c6 : Hid (Calls Tryz.prog 60 #[.iface 70 (.agg #[.iface 176 (.pointer (some (ad 58))), .int .i64 num]), .iface 176 (.pointer (some (ad 56)))] W6 fun e w' => e = .returned (.bool false) ∧ Below W6.heap.size W6 w') := is_any S6.out.1 (58, 0) (56, 9) (by decide) (by decide) num
  go_wp2_with fail
  refine c6.out.mono ?_
  rintro e W7 ⟨rfl, hb⟩
  have S7 : Hid (Sen ad W7 ∧ Below w.heap.size w W7 ∧ W7.heap[w.heap.size]? = some (.cells #[.iface 176 (.pointer (some (ad 58))), .int .i64 num] 70 (0, 0))) := ⟨S6.out.1.below hb, S6.out.2.1.trans (hb.mono S6.out.2.1.size), by rw [hb.block _ (Array.getElem?_eq_some_iff.1 S6.out.2.2).1]; exact S6.out.2.2⟩
  clear hb c6 S6 p0 p1 p2
  have p0 : W7.cell? ⟨w.heap.size, 0, none⟩ = some (.iface 176 (.pointer (some (ad 58)))) := by rw [cell_of_row _ _ _ _ _ _ S7.out.2.2]; rfl
  have p1 : W7.cell? ⟨w.heap.size, 1, none⟩ = some (.int .i64 num) := by rw [cell_of_row _ _ _ _ _ _ S7.out.2.2]; rfl
  have p2 : W7.cell? ⟨2, 0, none⟩ = some (.iface 176 (.pointer (some (ad 57)))) := (S7.out.1.1 (57, 2) (by decide)).1
  have c7 : Hid (Calls Tryz.prog 60 #[.iface 70 (.agg #[.iface 176 (.pointer (some (ad 58))), .int .i64 num]), .iface 176 (.pointer (some (ad 57)))] W7 fun e w' => e = .returned (.bool false) ∧ Below W7.heap.size W7 w') := is_any S7.out.1 (58, 0) (57, 2) (by decide) (by decide) num
  go_wp2_with fail
  refine c7.out.mono ?_
  rintro e W8 ⟨rfl, hb⟩
  have S8 : Hid (Sen ad W8 ∧ Below w.heap.size w W8 ∧ W8.heap[w.heap.size]? = some (.cells #[.iface 176 (.pointer (some (ad 58))), .int .i64 num] 70 (0, 0))) := ⟨S7.out.1.below hb, S7.out.2.1.trans (hb.mono S7.out.2.1.size), by rw [hb.block _ (Array.getElem?_eq_some_iff.1 S7.out.2.2).1]; exact S7.out.2.2⟩
  clear hb c7 S7 p0 p1 p2
  have p0 : W8.cell? ⟨w.heap.size, 0, none⟩ = some (.iface 176 (.pointer (some (ad 58)))) := by rw [cell_of_row _ _ _ _ _ _ S8.out.2.2]; rfl
  have p1 : W8.cell? ⟨w.heap.size, 1, none⟩ = some (.int .i64 num) := by rw [cell_of_row _ _ _ _ _ _ S8.out.2.2]; rfl
  have p2 : W8.cell? ⟨0, 0, none⟩ = some (.iface 176 (.pointer (some (ad 58)))) := (S8.out.1.1 (58, 0) (by decide)).1
  have c8 : Hid (Calls Tryz.prog 60 #[.iface 70 (.agg #[.iface 176 (.pointer (some (ad 58))), .int .i64 num]), .iface 176 (.pointer (some (ad 58)))] W8 fun e w' => e = .returned (.bool true) ∧ Below W8.heap.size W8 w') := is_any S8.out.1 (58, 0) (58, 0) (by decide) (by decide) num
  go_wp2_with fail
  refine c8.out.mono ?_
  rintro e W9 ⟨rfl, hb⟩
  have hfin : Hid (Below w.heap.size w W9) := S8.out.2.1.trans (hb.mono S8.out.2.1.size)
  clear hb c8 S8
  go_wp2_with fail
  go_ret
  exact ⟨rfl, hfin.out⟩
set_option maxHeartbeats 4000000 in
theorem number_59 (ad : Nat → Addr) (num : Int) (w : World) (h : Sen ad w) :
    Calls Tryz.prog 38 #[.agg #[.iface 176 (.pointer (some (ad 59))), .int .i64 num]] w fun e w' => e = .returned (.int .i64 59) ∧ Below w.heap.size w w' := by
  obtain ⟨W0, hW0⟩ : ∃ W0, w.alloc (.cells #[.iface 176 (.pointer (some (ad 59))), .int .i64 num] 70) = W0 := ⟨_, rfl⟩
  have b0 : Below w.heap.size w W0 := by rw [← hW0]; exact (Below.refl _ _).alloc (Nat.le_refl _) _
  have x0 : W0.heap[w.heap.size]? = some (.cells #[.iface 176 (.pointer (some (ad 59))), .int .i64 num] 70 (0, 0)) := by rw [← hW0]; exact heap_alloc_new _ _
  have S0 : Hid (Sen ad W0 ∧ Below w.heap.size w W0 ∧ W0.heap[w.heap.size]? = some (.cells #[.iface 176 (.pointer (some (ad 59))), .int .i64 num] 70 (0, 0))) := ⟨h.below b0, b0, x0⟩
  have p0 : W0.cell? ⟨w.heap.size, 0, none⟩ = some (.iface 176 (.pointer (some (ad 59)))) := by rw [cell_of_row _ _ _ _ _ _ x0]; rfl
  have p1 : W0.cell? ⟨w.heap.size, 1, none⟩ = some (.int .i64 num) := by rw [cell_of_row _ _ _ _ _ _ x0]; rfl
  have p2 : W0.cell? ⟨4, 0, none⟩ = some (.iface 176 (.pointer (some (ad 50)))) := (S0.out.1.1 (50, 4) (by decide)).1
  clear b0 x0 h
  go_enter Tryz.func38, Tryz.ntmps38
  have c0 : Hid (Calls Tryz.prog 60 #[.iface 70 (.agg #[.iface 176 (.pointer (some (ad 59))), .int .i64 num]), .iface 176 (.pointer (some (ad 50)))] W0 fun e w' => e = .returned (.bool false) ∧ Below W0.heap.size W0 w') := is_any S0.out.1 (59, 1) (50, 4) (by decide) (by decide) num
  go_wp2_with fail
  refine c0.out.mono ?_
  rintro e W1 ⟨rfl, hb⟩
  have S1 : Hid (Sen ad W1 ∧ Below w.heap.size w W1 ∧ W1.heap[w.heap.size]? = some (.cells #[.iface 176 (.pointer (some (ad 59))), .int .i64 num] 70 (0, 0))) := ⟨S0.out.1.below hb, S0.out.2.1.trans (hb.mono S0.out.2.1.size), by rw [hb.block _ (Array.getElem?_eq_some_iff.1 S0.out.2.2).1]; exact S0.out.2.2⟩
  clear hb c0 S0 p0 p1 p2
  have p0 : W1.cell? ⟨w.heap.size, 0, none⟩ = some (.iface 176 (.pointer (some (ad 59)))) := by rw [cell_of_row _ _ _ _ _ _ S1.out.2.2]; rfl
  have p1 : W1.cell? ⟨w.heap.size, 1, none⟩ = some (.int .i64 num) := by rw [cell_of_row _ _ _ _ _ _ S1.out.2.2]; rfl
  have p2 : W1.cell? ⟨3, 0, none⟩ = some (.iface 176 (.pointer (some (ad 51)))) := (S1.out.1.1 (51, 3) (by decide)).1
  have c1 : Hid (Calls Tryz.prog 60 #[.iface 70 (.agg #[.iface 176 (.pointer (some (ad 59))), .int .i64 num]), .iface 176 (.pointer (some (ad 51)))] W1 fun e w' => e = .returned (.bool false) ∧ Below W1.heap.size W1 w') := is_any S1.out.1 (59, 1) (51, 3) (by decide) (by decide) num
  go_wp2_with fail
  refine c1.out.mono ?_
  rintro e W2 ⟨rfl, hb⟩
  have S2 : Hid (Sen ad W2 ∧ Below w.heap.size w W2 ∧ W2.heap[w.heap.size]? = some (.cells #[.iface 176 (.pointer (some (ad 59))), .int .i64 num] 70 (0, 0))) := ⟨S1.out.1.below hb, S1.out.2.1.trans (hb.mono S1.out.2.1.size), by rw [hb.block _ (Array.getElem?_eq_some_iff.1 S1.out.2.2).1]; exact S1.out.2.2⟩
  clear hb c1 S1 p0 p1 p2
  have p0 : W2.cell? ⟨w.heap.size, 0, none⟩ = some (.iface 176 (.pointer (some (ad 59)))) := by rw [cell_of_row _ _ _ _ _ _ S2.out.2.2]; rfl
  have p1 : W2.cell? ⟨w.heap.size, 1, none⟩ = some (.int .i64 num) := by rw [cell_of_row _ _ _ _ _ _ S2.out.2.2]; rfl
  have p2 : W2.cell? ⟨5, 0, none⟩ = some (.iface 176 (.pointer (some (ad 52)))) := (S2.out.1.1 (52, 5) (by decide)).1
  have c2 : Hid (Calls Tryz.prog 60 #[.iface 70 (.agg #[.iface 176 (.pointer (some (ad 59))), .int .i64 num]), .iface 176 (.pointer (some (ad 52)))] W2 fun e w' => e = .returned (.bool false) ∧ Below W2.heap.size W2 w') := is_any S2.out.1 (59, 1) (52, 5) (by decide) (by decide) num
  go_wp2_with fail
  refine c2.out.mono ?_
  rintro e W3 ⟨rfl, hb⟩
  have S3 : Hid (Sen ad W3 ∧ Below w.heap.size w W3 ∧ W3.heap[w.heap.size]? = some (.cells #[.iface 176 (.pointer (some (ad 59))), .int .i64 num] 70 (0, 0))) := ⟨S2.out.1.below hb, S2.out.2.1.trans (hb.mono S2.out.2.1.size), by rw [hb.block _ (Array.getElem?_eq_some_iff.1 S2.out.2.2).1]; exact S2.out.2.2⟩
  clear hb c2 S2 p0 p1 p2
  have p0 : W3.cell? ⟨w.heap.size, 0, none⟩ = some (.iface 176 (.pointer (some (ad 59)))) := by rw [cell_of_row _ _ _ _ _ _ S3.out.2.2]; rfl
  have p1 : W3.cell? ⟨w.heap.size, 1, none⟩ = some (.int .i64 num) := by rw [cell_of_row _ _ _ _ _ _ S3.out.2.2]; rfl
  have p2 : W3.cell? ⟨6, 0, none⟩ = some (.iface 176 (.pointer (some (ad 53)))) := (S3.out.1.1 (53, 6) (by decide)).1
  have c3 : Hid (Calls Tryz.prog 60 #[.iface 70 (.agg #[.iface 176 (.pointer (some (ad 59))), .int .i64 num]), .iface 176 (.pointer (some (ad 53)))] W3 fun e w' => e = .returned (.bool false) ∧ Below W3.heap.size W3 w') := is_any S3.out.1 (59, 1) (53, 6) (by decide) (by decide) num
  go_wp2_with fail
  refine c3.out.mono ?_
  rintro e W4 ⟨rfl, hb⟩
  have S4 : Hid (Sen ad W4 ∧ Below w.heap.size w W4 ∧ W4.heap[w.heap.size]? = some (.cells #[.iface 176 (.pointer (some (ad 59))), .int .i64 num] 70 (0, 0))) := ⟨S3.out.1.below hb, S3.out.2.1.trans (hb.mono S3.out.2.1.size), by rw [hb.block _ (Array.getElem?_eq_some_iff.1 S3.out.2.2).1]; exact S3.out.2.2⟩
  clear hb c3 S3 p0 p1 p2
  have p0 : W4.cell? ⟨w.heap.size, 0, none⟩ = some (.iface 176 (.pointer (some (ad 59)))) := by rw [cell_of_row _ _ _ _ _ _ S4.out.2.2]; rfl
  have p1 : W4.cell? ⟨w.heap.size, 1, none⟩ = some (.int .i64 num) := by rw [cell_of_row _ _ _ _ _ _ S4.out.2.2]; rfl
  have p2 : W4.cell? ⟨7, 0, none⟩ = some (.iface 176 (.pointer (some (ad 54)))) := (S4.out.1.1 (54, 7) (by decide)).1
  have c4 : Hid (Calls Tryz.prog 60 #[.iface 70 (.agg #[.iface 176 (.pointer (some (ad 59))), .int .i64 num]), .iface 176 (.pointer (some (ad 54)))] W4 fun e w' => e = .returned (.bool false) ∧ Below W4.heap.size W4 w') := is_any S4.out.1 (59, 1) (54, 7) (by decide) (by decide) num
  go_wp2_with fail
  refine c4.out.mono ?_
  rintro e W5 ⟨rfl, hb⟩
  have S5 : Hid (Sen ad W5 ∧ Below w.heap.size w W5 ∧ W5.heap[w.heap.size]? = some (.cells #[.iface 176 (.pointer (some (ad 59))), .int .i64 num] 70 (0, 0))) := ⟨S4.out.1.below hb, S4.out.2.1.trans (hb.mono S4.out.2.1.size), by rw [hb.block _ (Array.getElem?_eq_some_iff.1 S4.out.2.2).1]; exact S4.out.2.2⟩
  clear hb c4 S4 p0 p1 p2
  have p0 : W5.cell? ⟨w.heap.size, 0, none⟩ = some (.iface 176 (.pointer (some (ad 59)))) := by rw [cell_of_row _ _ _ _ _ _ S5.out.2.2]; rfl
  have p1 : W5.cell? ⟨w.heap.size, 1, none⟩ = some (.int .i64 num) := by rw [cell_of_row _ _ _ _ _ _ S5.out.2.2]; rfl
  have p2 : W5.cell? ⟨8, 0, none⟩ = some (.iface 176 (.pointer (some (ad 55)))) := (S5.out.1.1 (55, 8) (by decide)).1
  have c5 : Hid (Calls Tryz.prog 60 #[.iface 70 (.agg #[.iface 176 (.pointer (some (ad 59))), .int .i64 num]), .iface 176 (.pointer (some (ad 55)))] W5 fun e w' => e = .returned (.bool false) ∧ Below W5.heap.size W5 w') := is_any S5.out.1 (59, 1) (55, 8) (by decide) (by decide) num
  go_wp2_with fail
  refine c5.out.mono ?_
  rintro e W6 ⟨rfl, hb⟩
  have S6 : Hid (Sen ad W6 ∧ Below w.heap.size w W6 ∧ W6.heap[w.heap.size]? = some (.cells #[.iface 176 (.pointer (some (ad 59))), .int .i64 num] 70 (0, 0))) := ⟨S5.out.1.below hb, S5.out.2.1.trans (hb.mono S5.out.2.1.size), by rw [hb.block _ (Array.getElem?_eq_some_iff.1 S5.out.2.2).1]; exact S5.out.2.2⟩
  clear hb c5 S5 p0 p1 p2
  have p0 : W6.cell? ⟨w.heap.size, 0, none⟩ = some (.iface 176 (.pointer (some (ad 59)))) := by rw [cell_of_row _ _ _ _ _ _ S6.out.2.2]; rfl
  have p1 : W6.cell? ⟨w.heap.size, 1, none⟩ = some (.int .i64 num) := by rw [cell_of_row _ _ _ _ _ _ S6.out.2.2]; rfl
  have p2 : W6.cell? ⟨9, 0, none⟩ = some (.iface 176 (.pointer (some (ad 56)))) := (S6.out.1.1 (56, 9) (by decide)).1
  have c6 : Hid (Calls Tryz.prog 60 #[.iface 70 (.agg #[.iface 176 (.pointer (some (ad 59))), .int .i64 num]), .iface 176 (.pointer (some (ad 56)))] W6 fun e w' => e = .returned (.bool false) ∧ Below W6.heap.size W6 w') := is_any S6.out.1 (59, 1) (56, 9) (by decide) (by decide) num
  go_wp2_with fail
  refine c6.out.mono ?_
  rintro e W7 ⟨rfl, hb⟩
  have S7 : Hid (Sen ad W7 ∧ Below w.heap.size w W7 ∧ W7.heap[w.heap.size]? = some (.cells #[.iface 176 (.pointer (some (ad 59))), .int .i64 num] 70 (0, 0))) := ⟨S6.out.1.below hb, S6.out.2.1.trans (hb.mono S6.out.2.1.size), by rw [hb.block _ (Array.getElem?_eq_some_iff.1 S6.out.2.2).1]; exact S6.out.2.2⟩
  clear hb c6 S6 p0 p1 p2
  have p0 : W7.cell? ⟨w.heap.size, 0, none⟩ = some (.iface 176 (.pointer (some (ad 59)))) := by rw [cell_of_row _ _ _ _ _ _ S7.out.2.2]; rfl
  have p1 : W7.cell? ⟨w.heap.size, 1, none⟩ = some (.int .i64 num) := by rw [cell_of_row _ _ _ _ _ _ S7.out.2.2]; rfl
  have p2 : W7.cell? ⟨2, 0, none⟩ = some (.iface 176 (.pointer (some (ad 57)))) := (S7.out.1.1 (57, 2) (by decide)).1
  have c7 : Hid (Calls Tryz.prog 60 #[.iface 70 (.agg #[.iface 176 (.pointer (some (ad 59))), .int .i64 num]), .iface 176 (.pointer (some (ad 57)))] W7 fun e w' => e = .returned (.bool false) ∧ Below W7.heap.size W7 w') := is_any S7.out.1 (59, 1) (57, 2) (by decide) (by decide) num
  go_wp2_with fail
  refine c7.out.mono ?_
  rintro e W8 ⟨rfl, hb⟩
  have S8 : Hid (Sen ad W8 ∧ Below w.heap.size w W8 ∧ W8.heap[w.heap.size]? = some (.cells #[.iface 176 (.pointer (some (ad 59))), .int .i64 num] 70 (0, 0))) := ⟨S7.out.1.below hb, S7.out.2.1.trans (hb.mono S7.out.2.1.size), by rw [hb.block _ (Array.getElem?_eq_some_iff.1 S7.out.2.2).1]; exact S7.out.2.2⟩
  clear hb c7 S7 p0 p1 p2
  have p0 : W8.cell? ⟨w.heap.size, 0, none⟩ = some (.iface 176 (.pointer (some (ad 59)))) := by rw [cell_of_row _ _ _ _ _ _ S8.out.2.2]; rfl
  have p1 : W8.cell? ⟨w.heap.size, 1, none⟩ = some (.int .i64 num) := by rw [cell_of_row _ _ _ _ _ _ S8.out.2.2]; rfl
  have p2 : W8.cell? ⟨0, 0, none⟩ = some (.iface 176 (.pointer (some (ad 58)))) := (S8.out.1.1 (58, 0) (by decide)).1
  have c8 : Hid (Calls Tryz.prog 60 #[.iface 70 (.agg #[.iface 176 (.pointer (some (ad 59))), .int .i64 num]), .iface 176 (.pointer (some (ad 58)))] W8 fun e w' => e = .returned (.bool false) ∧ Below W8.heap.size W8 w') := is_any S8.out.1 (59, 1) (58, 0) (by decide) (by decide) num
  go_wp2_with fail
  refine c8.out.mono ?_
  rintro e W9 ⟨rfl, hb⟩
  have S9 : Hid (Sen ad W9 ∧ Below w.heap.size w W9 ∧ W9.heap[w.heap.size]? = some (.cells #[.iface 176 (.pointer (some (ad 59))), .int .i64 num] 70 (0, 0))) := ⟨S8.out.1.below hb, S8.out.2.1.trans (hb.mono S8.out.2.1.size), by rw [hb.block _ (Array.getElem?_eq_some_iff.1 S8.out.2.2).1]; exact S8.out.2.2⟩
  clear hb c8 S8 p0 p1 p2
  have p0 : W9.cell? ⟨w.heap.size, 0, none⟩ = some (.iface 176 (.pointer (some (ad 59)))) := by rw [cell_of_row _ _ _ _ _ _ S9.out.2.2]; rfl
  have p1 : W9.cell? ⟨w.heap.size, 1, none⟩ = some (.int .i64 num) := by rw [cell_of_row _ _ _ _ _ _ S9.out.2.2]; rfl
  have p2 : W9.cell? ⟨1, 0, none⟩ = some (.iface 176 (.pointer (some (ad 59)))) := (S9.out.1.1 (59, 1) (by decide)).1
  have c9 : Hid (Calls Tryz.prog 60 #[.iface 70 (.agg #[.iface 176 (.pointer (some (ad 59))), .int .i64 num]), .iface 176 (.pointer (some (ad 59)))] W9 fun e w' => e = .returned (.bool true) ∧ Below W9.heap.size W9 w') := is_any S9.out.1 (59, 1) (59, 1) (by decide) (by decide) num
  go_wp2_with fail
  refine c9.out.mono ?_
  rintro e W10 ⟨rfl, hb⟩
  have hfin : Hid (Below w.heap.size w W10) := S9.out.2.1.trans (hb.mono S9.out.2.1.size)
  clear hb c9 S9
  go_wp2_with fail
  go_ret
  exact ⟨rfl, hfin.out⟩
theorem number_any (ad : Nat → Addr) (k : Nat) (num : Int) (w : World) (h : Sen ad w) (hk : k = 50 ∨ k = 51 ∨ k = 57 ∨ k = 58 ∨ k = 59) :
    Calls Tryz.prog 38 #[.agg #[.iface 176 (.pointer (some (ad k))), .int .i64 num]] w fun e w' => e = .returned (.int .i64 (k : Int)) ∧ Below w.heap.size w w' := by
  rcases hk with rfl | rfl | rfl | rfl | rfl
  · exact number_50 ad num w h
  · exact number_51 ad num w h
  · exact number_57 ad num w h
  · exact number_58 ad num w h
  · exact number_59 ad num w h
set_option maxHeartbeats 2000000 in
/-- Fault of a refusal. -/
theorem fault_ref (ad : Nat → Addr) (k : Nat) (num : Int) (w : World) (h : Sen ad w) (hT : ErrT w) (hk : k = 50 ∨ k = 51 ∨ k = 57 ∨ k = 58 ∨ k = 59) :
    Calls Tryz.prog 19 #[.iface 70 (.agg #[.iface 176 (.pointer (some (ad k))), .int .i64 num])] w fun e w' => e = .returned (.tuple #[.int .i64 (k : Int), .int .i64 num]) ∧ Below w.heap.size w w' := by
  have cF : Hid (Calls Tryz.prog 37 #[.iface 70 (.agg #[.iface 176 (.pointer (some (ad k))), .int .i64 num])] w fun e w' => e = .returned (.tuple #[.agg #[.iface 176 (.pointer (some (ad k))), .int .i64 num], .bool true]) ∧ Below w.heap.size w w') := find_any _ _ num w hT
  have h' : Hid (Sen ad w) := h
  have hk' : Hid (k = 50 ∨ k = 51 ∨ k = 57 ∨ k = 58 ∨ k = 59) := hk
  clear h hT hk
  go_enter Tryz.func19, Tryz.ntmps19
  go_wp2_with fail
  refine cF.out.mono ?_
  rintro e W1 ⟨rfl, hb1⟩
  obtain ⟨W2, hW2⟩ : ∃ W2, W1.alloc (.cells #[.iface 176 (.pointer (some (ad k))), .int .i64 num] 70) = W2 := ⟨_, rfl⟩
  have b2 : Below W1.heap.size W1 W2 := by rw [← hW2]; exact (Below.refl _ _).alloc (Nat.le_refl _) _
  have x2 : W2.heap[W1.heap.size]? = some (.cells #[.iface 176 (.pointer (some (ad k))), .int .i64 num] 70 (0, 0)) := by rw [← hW2]; exact heap_alloc_new _ _
  have hB2 : Hid (Below w.heap.size w W2) := hb1.trans (b2.mono hb1.size)
  have hBd : Hid (Below w.heap.size w W2.drew) := hB2.out.trans ⟨rfl, rfl, rfl, Nat.le_refl _, fun _ _ => rfl⟩
  have S2 : Hid (Sen ad W2.drew) := (h'.out.below hB2.out).below ⟨rfl, rfl, rfl, Nat.le_refl _, fun _ _ => rfl⟩
  have cd : W2.drew.cell? ⟨W1.heap.size, 0, none⟩ = some (.iface 176 (.pointer (some (ad k)))) ∧ W2.drew.cell? ⟨W1.heap.size, 1, none⟩ = some (.int .i64 num) := ⟨(cell_of_row _ _ _ _ _ _ x2).trans rfl, (cell_of_row _ _ _ _ _ _ x2).trans rfl⟩
  have cN : Hid (Calls Tryz.prog 38 #[.agg #[.iface 176 (.pointer (some (ad k))), .int .i64 num]] W2.drew fun e w' => e = .returned (.int .i64 (k : Int)) ∧ Below W2.drew.heap.size W2.drew w') := number_any ad k num W2.drew S2.out hk'.out
  clear hb1 b2 x2 cF
  go_wp2_with fail
  go_region_held3 (fun w' => w'.cell? ⟨W1.heap.size, 0, none⟩ = some (.iface 176 (.pointer (some (ad k)))) ∧ w'.cell? ⟨W1.heap.size, 1, none⟩ = some (.int .i64 num))
    (first | exact cd8 | exact cd)
    (first | (go_at_call 38; refine cN.out.mono ?_; rintro e w8 ⟨rfl, hb8⟩; have cd8 := And.intro ((hb8.cell (World.block_lt_of_cell? _ _ cd.1)).trans cd.1) ((hb8.cell (World.block_lt_of_cell? _ _ cd.2)).trans cd.2); have hfin : Hid (Below w.heap.size w w8) := hBd.out.trans (hb8.mono hBd.out.size); clear hb8))
  clear cd cd8 cN
  go_wp2_with fail
  go_ret2
  exact ⟨rfl, hfin.out⟩
theorem fault_nil (w : World) : Calls Tryz.prog 19 #[.nilIface] w fun e w' => e = .returned (.tuple #[.int .i64 0, .int .i64 0]) ∧ w' = w := by
  go_enter Tryz.func19, Tryz.ntmps19
  go_wp2_with fail
  go_ret2
  exact ⟨rfl, rfl⟩
end Ke
end Go.Proofs.YtfmhcgadgakbhaaGreatDoor
