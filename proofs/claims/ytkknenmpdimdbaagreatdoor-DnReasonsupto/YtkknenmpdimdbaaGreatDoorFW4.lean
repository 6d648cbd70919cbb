import Derived.Test.YtkknenmpdimdbaaGreatDoorKfB
import Derived.Deep.RegionHeld3
import Derived.Deep.RegionHeldLaw
import Derived.Test.YtkknenmpdimdbaaGreatDoorRows
import Derived.WalkKit
import Derived.KernelRfl
import Derived.Deep.WholeRow
namespace Go.Proofs.YtkknenmpdimdbaaGreatDoor
namespace Ke
open Go.RowKit Go.Extern.Stop Go.Stop Go.Extern
set_option linter.unusedVariables false
set_option linter.unusedSimpArgs false
set_option maxRecDepth 100000
set_option maxHeartbeats 1000000 in
theorem find1_idle (p q : Value) (w : World) : CallsD Tryz.prog 79 #[p, q] .returning w fun e u' w' => e = .returned (.tuple #[]) ∧ u' = .returning ∧ w' = w := by
 refine callsD_of_wpS Tryz.func79 rfl fun c₀ cs hu => ?_
 apply wpS_seq
 apply wpS_region
 simp [wpOpsS, go_sem, recoverD, hu, Tryz.ntmps79]
 show Code.wpS _ _ _ _ _ _
 refine wpS_cond (t := false) (by rfl) ?_
 rw [if_neg (by decide)]
 refine wpS_of_wp ?_
 refine wp_skip ?_
 cases c₀
 simp_all [go_sem, bodyPostS, results, Tryz.results79]
set_option maxHeartbeats 4000000 in
theorem find_any (t : TypeId) (u : Value) (num : Int) (w : World) (hg : ErrT w) :
  Calls Tryz.prog 49 #[.iface 69 (.agg #[.iface t u, .int .i64 num])] w fun e w' => e = .returned (.tuple #[.agg #[.iface t u, .int .i64 num], .bool true]) ∧ Below w.heap.size w w' := by
 obtain ⟨W1, hW1⟩ : ∃ W1, w.alloc (.cells #[.nilIface, .int .i64 0] 69) = W1 := ⟨_, rfl⟩
 obtain ⟨W2, hW2⟩ : ∃ W2, W1.alloc (.cells #[.bool false] 4) = W2 := ⟨_, rfl⟩
 have b1 : Below w.heap.size w W1 := by rw [← hW1]; exact (Below.refl _ _).alloc (Nat.le_refl _) _
 have b2 : Below W1.heap.size W1 W2 := by rw [← hW2]; exact (Below.refl _ _).alloc (Nat.le_refl _) _
 have x1 : W1.heap[w.heap.size]? = some (.cells #[.nilIface, .int .i64 0] 69 (0, 0)) := by rw [← hW1]; exact heap_alloc_new _ _
 have x2 : W2.heap[w.heap.size]? = some (.cells #[.nilIface, .int .i64 0] 69 (0, 0)) := by rw [b2.block _ (Array.getElem?_eq_some_iff.1 x1).1]; exact x1
 have y2 : W2.heap[W1.heap.size]? = some (.cells #[.bool false] 4 (0, 0)) := by rw [← hW2]; exact heap_alloc_new _ _
 have hg2 : ErrT W2 := by
  have h1 := (b1.cell (World.block_lt_of_cell? _ _ hg)).trans hg
  exact (b2.cell (World.block_lt_of_cell? _ _ h1)).trans h1
 have hA : Hid (Calls Tryz.prog 80 #[.iface 69 (.agg #[.iface t u, .int .i64 num]), .iface 125 (.pointer (some ⟨w.heap.size, 0, none⟩))] W2 fun e w' => e = .returned (.bool true) ∧ ∃ w1, Below W2.heap.size W2 w1 ∧ w1.heap[w.heap.size]? = some (.cells #[.nilIface, .int .i64 0] 69 (0, 0)) ∧ w' = (w1.setCell ⟨w.heap.size, 0, none⟩ (.iface t u)).setCell ⟨w.heap.size, 1, none⟩ (.int .i64 num)) := as_hit w.heap.size t u _ _ num W2 hg2 x2
 have hmf : ∀ (fn : Fn) (first cap : Array Value) (w : World), (Instr.makeFunc fn first cap).run Tryz.prog w = .ok (.func fn first cap) w := fun _ _ _ _ => rfl
 have hlt1 : w.heap.size < W1.heap.size := (Array.getElem?_eq_some_iff.1 x1).1
 have hB2 : Hid (Below w.heap.size w W2 ∧ W1.heap.size < W2.heap.size) := ⟨b1.trans (b2.mono b1.size), (Array.getElem?_eq_some_iff.1 y2).1⟩
 have y2' : Hid (W2.heap[W1.heap.size]? = some (.cells #[.bool false] 4 (0, 0))) := y2
 have hlt1' : Hid (w.heap.size < W1.heap.size) := hlt1
 clear b1 b2 x1 x2 hg2 hg hlt1 y2
 go_enter_defers Tryz.func49, Tryz.ntmps49
 go_wp2_with fail
 refine hA.out.mono ?_
 rintro e w' ⟨rfl, w1, hb1, hx, rfl⟩
 obtain ⟨W3, hW3⟩ : ∃ W3, (w1.setCell ⟨w.heap.size, 0, none⟩ (.iface t u)).setCell ⟨w.heap.size, 1, none⟩ (.int .i64 num) = W3 := ⟨_, rfl⟩
 have hs3 : W3.heap.size = w1.heap.size := by rw [← hW3]; simp only [World.size_setCell]
 have h3 : W3.heap[w.heap.size]? = some (.cells #[.iface t u, .int .i64 num] 69 (0, 0)) := by
  have e1 := Go.heap_setCell_same w1 w.heap.size 0 _ _ (.iface t u) hx
  have e2 := Go.heap_setCell_same _ w.heap.size 1 _ _ (.int .i64 num) e1
  rw [← hW3, e2]
  rfl
 have hB3 : Hid (Below w.heap.size w W3) := by
  have h1 : Below w.heap.size w w1 := hB2.out.1.trans (hb1.mono hB2.out.1.size)
  rw [← hW3]
  exact (h1.setCell (p := ⟨w.heap.size, 0, none⟩) (Nat.le_refl _) _).setCell (p := ⟨w.heap.size, 1, none⟩) (Nat.le_refl _) _
 have k3 : W3.heap[W1.heap.size]? = some (.cells #[.bool false] 4 (0, 0)) := by
  have hne : W1.heap.size ≠ w.heap.size := by have := hlt1'.out; omega
  rw [← hW3, Below.heap_setCell _ _ _ _ hne, Below.heap_setCell _ _ _ _ hne, hb1.block _ hB2.out.2]
  exact y2'.out
 have a0 : W3.cell? ⟨W1.heap.size, 0, none⟩ = some (.bool false) := by rw [cell_of_row _ _ _ _ _ _ k3]; rfl
 have z0 : W3.frozen? ⟨W1.heap.size, 0, none⟩ = false := Go.frozen_of_row _ _ _ _ _ k3
 obtain ⟨W4, hW4⟩ : ∃ W4, W3.setCell ⟨W1.heap.size, 0, none⟩ (.bool true) = W4 := ⟨_, rfl⟩
 have h4 : W4.heap[w.heap.size]? = some (.cells #[.iface t u, .int .i64 num] 69 (0, 0)) := by
  rw [← hW4, Below.heap_setCell _ _ _ _ (by have := hlt1'.out; show w.heap.size ≠ W1.heap.size; omega)]
  exact h3
 have k4 : W4.heap[W1.heap.size]? = some (.cells #[.bool true] 4 (0, 0)) := by
  rw [← hW4, Go.heap_setCell_same _ _ 0 _ _ _ k3]
  rfl
 have hB4 : Hid (Below w.heap.size w W4) := by
  rw [← hW4]
  exact hB3.out.setCell (p := ⟨W1.heap.size, 0, none⟩) (Nat.le_of_lt hlt1'.out) _
 have d0 : W4.cell? ⟨w.heap.size, 0, none⟩ = some (.iface t u) := by rw [cell_of_row _ _ _ _ _ _ h4]; rfl
 have d1 : W4.cell? ⟨w.heap.size, 1, none⟩ = some (.int .i64 num) := by rw [cell_of_row _ _ _ _ _ _ h4]; rfl
 have d2 : W4.cell? ⟨W1.heap.size, 0, none⟩ = some (.bool true) := by rw [cell_of_row _ _ _ _ _ _ k4]; rfl
 have z1 : W4.frozen? ⟨w.heap.size, 0, none⟩ = false := Go.frozen_of_row _ _ _ _ _ h4
 have z2 : W4.frozen? ⟨w.heap.size, 1, none⟩ = false := Go.frozen_of_row _ _ _ _ _ h4
 have z3 : W4.frozen? ⟨W1.heap.size, 0, none⟩ = false := Go.frozen_of_row _ _ _ _ _ k4
 have hne : W1.heap.size ≠ w.heap.size := by have := hlt1'.out; omega
 have e1 : (W4.setCell ⟨w.heap.size, 0, none⟩ (.iface t u)).cell? ⟨W1.heap.size, 0, none⟩ = some (.bool true) := by
  rw [← d2]; unfold World.cell?; rw [Below.heap_setCell _ _ _ _ hne]
 obtain ⟨W5, hW5⟩ : ∃ W5, ((W4.setCell ⟨w.heap.size, 0, none⟩ (.iface t u)).setCell ⟨w.heap.size, 1, none⟩ (.int .i64 num)).setCell ⟨W1.heap.size, 0, none⟩ (.bool true) = W5 := ⟨_, rfl⟩
 have h5 : W5.heap[w.heap.size]? = some (.cells #[.iface t u, .int .i64 num] 69 (0, 0)) := by
  have q1 := Go.heap_setCell_same W4 w.heap.size 0 _ _ (.iface t u) h4
  have q2 := Go.heap_setCell_same _ w.heap.size 1 _ _ (.int .i64 num) q1
  rw [← hW5, Below.heap_setCell _ _ _ _ (fun e => hne e.symm), q2]
  rfl
 have k5 : W5.heap[W1.heap.size]? = some (.cells #[.bool true] 4 (0, 0)) := by
  have q1 : ((W4.setCell ⟨w.heap.size, 0, none⟩ (.iface t u)).setCell ⟨w.heap.size, 1, none⟩ (.int .i64 num)).heap[W1.heap.size]? = some (.cells #[.bool true] 4 (0, 0)) := by
   rw [Below.heap_setCell _ _ _ _ hne, Below.heap_setCell _ _ _ _ hne]
   exact k4
  rw [← hW5, Go.heap_setCell_same _ _ 0 _ _ _ q1]
  rfl
 have hB5 : Hid (Below w.heap.size w W5.drew) := by
  have q := ((hB4.out.setCell (p := ⟨w.heap.size, 0, none⟩) (Nat.le_refl _) (.iface t u)).setCell (p := ⟨w.heap.size, 1, none⟩) (Nat.le_refl _) (.int .i64 num)).setCell (p := ⟨W1.heap.size, 0, none⟩) (Nat.le_of_lt hlt1'.out) (.bool true)
  rw [hW5] at q
  exact q.trans ⟨rfl, rfl, rfl, Nat.le_refl _, fun _ _ => rfl⟩
 have m0 : W5.cell? ⟨w.heap.size, 0, none⟩ = some (.iface t u) := by rw [cell_of_row _ _ _ _ _ _ h5]; rfl
 have m1 : W5.cell? ⟨w.heap.size, 1, none⟩ = some (.int .i64 num) := by rw [cell_of_row _ _ _ _ _ _ h5]; rfl
 have m2 : W5.cell? ⟨W1.heap.size, 0, none⟩ = some (.bool true) := by rw [cell_of_row _ _ _ _ _ _ k5]; rfl
 clear hb1 hx hs3 h3 k3 hB3 hA hne h5 k5 h4 k4
 rw [hW3]
 go_wp2_with fail
 go_region
 go_wp2_with fail
 refine leaves_cons (f := 79) (args := #[.pointer (some ⟨w.heap.size, 0, none⟩), .pointer (some ⟨W1.heap.size, 0, none⟩)]) (by simp) (by simp [go_sem]) ?_
 refine (find1_idle _ _ _).mono ?_
 rintro e u' w'' ⟨rfl, rfl, rfl⟩
 simp [Leaves, settle, results, Tryz.results49, go_sem, m0, m1, m2]
 exact hB5.out
end Ke
end Go.Proofs.YtkknenmpdimdbaaGreatDoor

namespace Go.Proofs.YtkknenmpdimdbaaGreatDoor
namespace Ke
open Go.RowKit
set_option linter.unusedVariables false
set_option linter.unusedSimpArgs false
set_option maxRecDepth 100000
def SenL : List (Nat × Nat) := [(50, 0), (51, 1), (52, 2), (53, 3), (54, 4), (55, 5), (56, 6), (57, 7), (58, 8), (59, 9)]
def Sen (ad : Nat → Addr) (W : World) : Prop :=
 (∀ x ∈ SenL, W.cell? ⟨x.2, 0, none⟩ = some (.iface 256 (.pointer (some (ad x.1)))) ∧ ∃ c t, W.heap[(ad x.1).block]? = some (.cells c t (0, 0))) ∧ (∀ x ∈ SenL, ∀ y ∈ SenL, x.1 ≠ y.1 → ad x.1 ≠ ad y.1)
theorem Sen.below {ad : Nat → Addr} {W W' : World} (h : Sen ad W) (hb : Below W.heap.size W W') : Sen ad W' := by
 refine ⟨fun x hx => ?_, h.2⟩
 obtain ⟨h1, c, t, h2⟩ := h.1 x hx
 exact ⟨(hb.cell (World.block_lt_of_cell? _ _ h1)).trans h1, c, t, by rw [hb.block _ (Array.getElem?_eq_some_iff.1 h2).1]; exact h2⟩
theorem is_any {ad : Nat → Addr} {W : World} (h : Sen ad W) (x y : Nat × Nat) (hx : x ∈ SenL) (hy : y ∈ SenL) (num : Int) :
  Calls Tryz.prog 38 #[.iface 69 (.agg #[.iface 256 (.pointer (some (ad x.1))), .int .i64 num]), .iface 256 (.pointer (some (ad y.1)))] W fun e w' => e = .returned (.bool (decide (x.1 = y.1))) ∧ Below W.heap.size W w' := by
 by_cases e : x.1 = y.1
 ·rw [e, decide_eq_true rfl]
  exact is_same _ _ _
 ·rw [decide_eq_false e]
  obtain ⟨_, c, t, h2⟩ := h.1 x hx
  obtain ⟨_, c', t', h2'⟩ := h.1 y hy
  exact is_other _ _ _ _ _ _ _ _ (h.2 x hx y hy e) h2 h2'
theorem sen_mem (k : Nat) (hk : 50 ≤ k ∧ k ≤ 59) : ∃ g, (k, g) ∈ SenL := by
 obtain ⟨h1, h2⟩ := hk
 have : k = 50 ∨ k = 51 ∨ k = 52 ∨ k = 53 ∨ k = 54 ∨ k = 55 ∨ k = 56 ∨ k = 57 ∨ k = 58 ∨ k = 59 := by omega
 rcases this with rfl | rfl | rfl | rfl | rfl | rfl | rfl | rfl | rfl | rfl <;> exact ⟨_, by simp only [SenL, List.mem_cons, Prod.mk.injEq]; simp; rfl⟩
abbrev EI (ad : Nat → Addr) (k j : Nat) (num : Int) (b : Bool) (W : World) : Prop := Hid (Calls Tryz.prog 38 #[.iface 69 (.agg #[.iface 256 (.pointer (some (ad k))), .int .i64 num]), .iface 256 (.pointer (some (ad j)))] W fun e w' => e = .returned (.bool b) ∧ Below W.heap.size W w')
def NmS (ad : Nat → Addr) (k : Nat) (num : Int) (w W : World) : Prop := Sen ad W ∧ Below w.heap.size w W ∧ W.heap[w.heap.size]? = some (.cells #[.iface 256 (.pointer (some (ad k))), .int .i64 num] 69 (0, 0))
theorem NmS.below {ad : Nat → Addr} {k : Nat} {num : Int} {w W W' : World} (h : NmS ad k num w W) (hb : Below W.heap.size W W') : NmS ad k num w W' := ⟨h.1.below hb, h.2.1.trans (hb.mono h.2.1.size), by rw [hb.block _ (Array.getElem?_eq_some_iff.1 h.2.2).1]; exact h.2.2⟩
theorem NmS.cells {ad : Nat → Addr} {k : Nat} {num : Int} {w W : World} (h : NmS ad k num w W) : W.cell? ⟨w.heap.size, 0, none⟩ = some (.iface 256 (.pointer (some (ad k)))) ∧ W.cell? ⟨w.heap.size, 1, none⟩ = some (.int .i64 num) := by
 constructor <;> (rw [cell_of_row _ _ _ _ _ _ h.2.2]; rfl)
set_option maxHeartbeats 16000000 in
theorem number_all (ad : Nat → Addr) (k : Nat) (num : Int) (w : World) (h : Sen ad w) (hk : 50 ≤ k ∧ k ≤ 59) :
  Calls Tryz.prog 50 #[.agg #[.iface 256 (.pointer (some (ad k))), .int .i64 num]] w fun e w' => e = .returned (.int .i64 (k : Int)) ∧ Below w.heap.size w w' := by
 obtain ⟨W0, hW0⟩ : ∃ W0, w.alloc (.cells #[.iface 256 (.pointer (some (ad k))), .int .i64 num] 69) = W0 := ⟨_, rfl⟩
 have b0 : Below w.heap.size w W0 := by rw [← hW0]; exact (Below.refl _ _).alloc (Nat.le_refl _) _
 have S0 : Hid (NmS ad k num w W0) := ⟨h.below b0, b0, by rw [← hW0]; exact heap_alloc_new _ _⟩
 have hI : ∀ j g W, (j, g) ∈ SenL → Sen ad W → EI ad k j num (decide (k = j)) W := fun j g W hj hS => by
  obtain ⟨q, hq⟩ := sen_mem k hk
  exact is_any hS (k, q) (j, g) hq hj num
 clear b0 h
 go_enter Tryz.func50, Tryz.ntmps50
 have c0 := hI 50 0 W0 (by decide) S0.out.1
 obtain ⟨p0, p1⟩ := S0.out.cells
 have p2 := (S0.out.1.1 (50, 0) (by decide)).1
 by_cases e0 : k = 50
 ·subst e0
  rw [decide_eq_true rfl] at c0
  go_wp2_with fail
  refine c0.out.mono ?_
  rintro e W1 ⟨rfl, hb⟩
  have hfin : Hid (Below w.heap.size w W1) := S0.out.2.1.trans (hb.mono S0.out.2.1.size)
  clear hb c0 S0 p0 p1 p2 hI
  go_wp2_with fail
  go_ret
  exact ⟨rfl, hfin.out⟩
 rw [decide_eq_false e0] at c0
 go_wp2_with fail
 refine c0.out.mono ?_
 rintro e W1 ⟨rfl, hb⟩
 have S1 : Hid (NmS ad k num w W1) := S0.out.below hb
 clear hb c0 S0 p0 p1 p2
 have c1 := hI 51 1 W1 (by decide) S1.out.1
 obtain ⟨p0, p1⟩ := S1.out.cells
 have p2 := (S1.out.1.1 (51, 1) (by decide)).1
 by_cases e1 : k = 51
 ·subst e1
  rw [decide_eq_true rfl] at c1
  go_wp2_with fail
  refine c1.out.mono ?_
  rintro e W2 ⟨rfl, hb⟩
  have hfin : Hid (Below w.heap.size w W2) := S1.out.2.1.trans (hb.mono S1.out.2.1.size)
  clear hb c1 S1 p0 p1 p2 hI
  go_wp2_with fail
  go_ret
  exact ⟨rfl, hfin.out⟩
 rw [decide_eq_false e1] at c1
 go_wp2_with fail
 refine c1.out.mono ?_
 rintro e W2 ⟨rfl, hb⟩
 have S2 : Hid (NmS ad k num w W2) := S1.out.below hb
 clear hb c1 S1 p0 p1 p2
 have c2 := hI 52 2 W2 (by decide) S2.out.1
 obtain ⟨p0, p1⟩ := S2.out.cells
 have p2 := (S2.out.1.1 (52, 2) (by decide)).1
 by_cases e2 : k = 52
 ·subst e2
  rw [decide_eq_true rfl] at c2
  go_wp2_with fail
  refine c2.out.mono ?_
  rintro e W3 ⟨rfl, hb⟩
  have hfin : Hid (Below w.heap.size w W3) := S2.out.2.1.trans (hb.mono S2.out.2.1.size)
  clear hb c2 S2 p0 p1 p2 hI
  go_wp2_with fail
  go_ret
  exact ⟨rfl, hfin.out⟩
 rw [decide_eq_false e2] at c2
 go_wp2_with fail
 refine c2.out.mono ?_
 rintro e W3 ⟨rfl, hb⟩
 have S3 : Hid (NmS ad k num w W3) := S2.out.below hb
 clear hb c2 S2 p0 p1 p2
 have c3 := hI 53 3 W3 (by decide) S3.out.1
 obtain ⟨p0, p1⟩ := S3.out.cells
 have p2 := (S3.out.1.1 (53, 3) (by decide)).1
 by_cases e3 : k = 53
 ·subst e3
  rw [decide_eq_true rfl] at c3
  go_wp2_with fail
  refine c3.out.mono ?_
  rintro e W4 ⟨rfl, hb⟩
  have hfin : Hid (Below w.heap.size w W4) := S3.out.2.1.trans (hb.mono S3.out.2.1.size)
  clear hb c3 S3 p0 p1 p2 hI
  go_wp2_with fail
  go_ret
  exact ⟨rfl, hfin.out⟩
 rw [decide_eq_false e3] at c3
 go_wp2_with fail
 refine c3.out.mono ?_
 rintro e W4 ⟨rfl, hb⟩
 have S4 : Hid (NmS ad k num w W4) := S3.out.below hb
 clear hb c3 S3 p0 p1 p2
 have c4 := hI 54 4 W4 (by decide) S4.out.1
 obtain ⟨p0, p1⟩ := S4.out.cells
 have p2 := (S4.out.1.1 (54, 4) (by decide)).1
 by_cases e4 : k = 54
 ·subst e4
  rw [decide_eq_true rfl] at c4
  go_wp2_with fail
  refine c4.out.mono ?_
  rintro e W5 ⟨rfl, hb⟩
  have hfin : Hid (Below w.heap.size w W5) := S4.out.2.1.trans (hb.mono S4.out.2.1.size)
  clear hb c4 S4 p0 p1 p2 hI
  go_wp2_with fail
  go_ret
  exact ⟨rfl, hfin.out⟩
 rw [decide_eq_false e4] at c4
 go_wp2_with fail
 refine c4.out.mono ?_
 rintro e W5 ⟨rfl, hb⟩
 have S5 : Hid (NmS ad k num w W5) := S4.out.below hb
 clear hb c4 S4 p0 p1 p2
 have c5 := hI 55 5 W5 (by decide) S5.out.1
 obtain ⟨p0, p1⟩ := S5.out.cells
 have p2 := (S5.out.1.1 (55, 5) (by decide)).1
 by_cases e5 : k = 55
 ·subst e5
  rw [decide_eq_true rfl] at c5
  go_wp2_with fail
  refine c5.out.mono ?_
  rintro e W6 ⟨rfl, hb⟩
  have hfin : Hid (Below w.heap.size w W6) := S5.out.2.1.trans (hb.mono S5.out.2.1.size)
  clear hb c5 S5 p0 p1 p2 hI
  go_wp2_with fail
  go_ret
  exact ⟨rfl, hfin.out⟩
 rw [decide_eq_false e5] at c5
 go_wp2_with fail
 refine c5.out.mono ?_
 rintro e W6 ⟨rfl, hb⟩
 have S6 : Hid (NmS ad k num w W6) := S5.out.below hb
 clear hb c5 S5 p0 p1 p2
 have c6 := hI 56 6 W6 (by decide) S6.out.1
 obtain ⟨p0, p1⟩ := S6.out.cells
 have p2 := (S6.out.1.1 (56, 6) (by decide)).1
 by_cases e6 : k = 56
 ·subst e6
  rw [decide_eq_true rfl] at c6
  go_wp2_with fail
  refine c6.out.mono ?_
  rintro e W7 ⟨rfl, hb⟩
  have hfin : Hid (Below w.heap.size w W7) := S6.out.2.1.trans (hb.mono S6.out.2.1.size)
  clear hb c6 S6 p0 p1 p2 hI
  go_wp2_with fail
  go_ret
  exact ⟨rfl, hfin.out⟩
 rw [decide_eq_false e6] at c6
 go_wp2_with fail
 refine c6.out.mono ?_
 rintro e W7 ⟨rfl, hb⟩
 have S7 : Hid (NmS ad k num w W7) := S6.out.below hb
 clear hb c6 S6 p0 p1 p2
 have c7 := hI 57 7 W7 (by decide) S7.out.1
 obtain ⟨p0, p1⟩ := S7.out.cells
 have p2 := (S7.out.1.1 (57, 7) (by decide)).1
 by_cases e7 : k = 57
 ·subst e7
  rw [decide_eq_true rfl] at c7
  go_wp2_with fail
  refine c7.out.mono ?_
  rintro e W8 ⟨rfl, hb⟩
  have hfin : Hid (Below w.heap.size w W8) := S7.out.2.1.trans (hb.mono S7.out.2.1.size)
  clear hb c7 S7 p0 p1 p2 hI
  go_wp2_with fail
  go_ret
  exact ⟨rfl, hfin.out⟩
 rw [decide_eq_false e7] at c7
 go_wp2_with fail
 refine c7.out.mono ?_
 rintro e W8 ⟨rfl, hb⟩
 have S8 : Hid (NmS ad k num w W8) := S7.out.below hb
 clear hb c7 S7 p0 p1 p2
 have c8 := hI 58 8 W8 (by decide) S8.out.1
 obtain ⟨p0, p1⟩ := S8.out.cells
 have p2 := (S8.out.1.1 (58, 8) (by decide)).1
 by_cases e8 : k = 58
 ·subst e8
  rw [decide_eq_true rfl] at c8
  go_wp2_with fail
  refine c8.out.mono ?_
  rintro e W9 ⟨rfl, hb⟩
  have hfin : Hid (Below w.heap.size w W9) := S8.out.2.1.trans (hb.mono S8.out.2.1.size)
  clear hb c8 S8 p0 p1 p2 hI
  go_wp2_with fail
  go_ret
  exact ⟨rfl, hfin.out⟩
 rw [decide_eq_false e8] at c8
 go_wp2_with fail
 refine c8.out.mono ?_
 rintro e W9 ⟨rfl, hb⟩
 have S9 : Hid (NmS ad k num w W9) := S8.out.below hb
 clear hb c8 S8 p0 p1 p2
 have c9 := hI 59 9 W9 (by decide) S9.out.1
 obtain ⟨p0, p1⟩ := S9.out.cells
 have p2 := (S9.out.1.1 (59, 9) (by decide)).1
 obtain rfl : k = 59 := by omega
 rw [decide_eq_true rfl] at c9
 go_wp2_with fail
 refine c9.out.mono ?_
 rintro e W10 ⟨rfl, hb⟩
 have hfin : Hid (Below w.heap.size w W10) := S9.out.2.1.trans (hb.mono S9.out.2.1.size)
 clear hb c9 S9 p0 p1 p2 hI
 go_wp2_with fail
 go_ret
 exact ⟨rfl, hfin.out⟩
theorem fault_nil (w : World) : Calls Tryz.prog 25 #[.nilIface] w fun e w' => e = .returned (.tuple #[.int .i64 0, .int .i64 0]) ∧ w' = w := by
 go_enter Tryz.func25, Tryz.ntmps25
 go_wp2_with fail
 go_ret2
 exact ⟨rfl, rfl⟩
end Ke
end Go.Proofs.YtkknenmpdimdbaaGreatDoor

namespace Go.Proofs.YtkknenmpdimdbaaGreatDoor
namespace Ke
open Go.RowKit
set_option linter.unusedVariables false
set_option linter.unusedSimpArgs false
set_option maxRecDepth 100000
set_option maxHeartbeats 2000000 in
theorem fault_all (ad : Nat → Addr) (k : Nat) (num : Int) (w : World) (h : Sen ad w) (hT : ErrT w) (hk : 50 ≤ k ∧ k ≤ 59) :
  Calls Tryz.prog 25 #[.iface 69 (.agg #[.iface 256 (.pointer (some (ad k))), .int .i64 num])] w fun e w' => e = .returned (.tuple #[.int .i64 (k : Int), .int .i64 num]) ∧ Below w.heap.size w w' := by
 have cF : Hid (Calls Tryz.prog 49 #[.iface 69 (.agg #[.iface 256 (.pointer (some (ad k))), .int .i64 num])] w fun e w' => e = .returned (.tuple #[.agg #[.iface 256 (.pointer (some (ad k))), .int .i64 num], .bool true]) ∧ Below w.heap.size w w') := find_any _ _ num w hT
 have h' : Hid (Sen ad w) := h
 have hk' : Hid (50 ≤ k ∧ k ≤ 59) := hk
 clear h hT hk
 go_enter Tryz.func25, Tryz.ntmps25
 go_wp2_with fail
 refine cF.out.mono ?_
 rintro e W1 ⟨rfl, hb1⟩
 obtain ⟨W2, hW2⟩ : ∃ W2, W1.alloc (.cells #[.iface 256 (.pointer (some (ad k))), .int .i64 num] 69) = W2 := ⟨_, rfl⟩
 have b2 : Below W1.heap.size W1 W2 := by rw [← hW2]; exact (Below.refl _ _).alloc (Nat.le_refl _) _
 have x2 : W2.heap[W1.heap.size]? = some (.cells #[.iface 256 (.pointer (some (ad k))), .int .i64 num] 69 (0, 0)) := by rw [← hW2]; exact heap_alloc_new _ _
 have hB2 : Hid (Below w.heap.size w W2) := hb1.trans (b2.mono hb1.size)
 have hBd : Hid (Below w.heap.size w W2.drew) := hB2.out.trans ⟨rfl, rfl, rfl, Nat.le_refl _, fun _ _ => rfl⟩
 have S2 : Hid (Sen ad W2.drew) := (h'.out.below hB2.out).below ⟨rfl, rfl, rfl, Nat.le_refl _, fun _ _ => rfl⟩
 have cd : W2.drew.cell? ⟨W1.heap.size, 0, none⟩ = some (.iface 256 (.pointer (some (ad k)))) ∧ W2.drew.cell? ⟨W1.heap.size, 1, none⟩ = some (.int .i64 num) := ⟨(cell_of_row _ _ _ _ _ _ x2).trans rfl, (cell_of_row _ _ _ _ _ _ x2).trans rfl⟩
 have cN : Hid (Calls Tryz.prog 50 #[.agg #[.iface 256 (.pointer (some (ad k))), .int .i64 num]] W2.drew fun e w' => e = .returned (.int .i64 (k : Int)) ∧ Below W2.drew.heap.size W2.drew w') := number_all ad k num W2.drew S2.out hk'.out
 clear hb1 b2 x2 cF
 go_wp2_with fail
 go_region_held3 (fun w' => w'.cell? ⟨W1.heap.size, 0, none⟩ = some (.iface 256 (.pointer (some (ad k)))) ∧ w'.cell? ⟨W1.heap.size, 1, none⟩ = some (.int .i64 num))
  (first | exact cd8 | exact cd)
  (first | (go_at_call 50; refine cN.out.mono ?_; rintro e w8 ⟨rfl, hb8⟩; have cd8 := And.intro ((hb8.cell (World.block_lt_of_cell? _ _ cd.1)).trans cd.1) ((hb8.cell (World.block_lt_of_cell? _ _ cd.2)).trans cd.2); have hfin : Hid (Below w.heap.size w w8) := hBd.out.trans (hb8.mono hBd.out.size); clear hb8))
 clear cd cd8 cN
 go_wp2_with fail
 go_ret2
 exact ⟨rfl, hfin.out⟩
set_option maxHeartbeats 1000000 in
theorem lfault_all (ad : Nat → Addr) (k : Nat) (num : Int) (w : World) (h : Sen ad w) (hT : ErrT w) (hk : 50 ≤ k ∧ k ≤ 59) :
  Calls Tryz.prog 17 #[.iface 69 (.agg #[.iface 256 (.pointer (some (ad k))), .int .i64 num]), .int .i64 (k : Int), .int .i64 num] w fun e w' => e = .returned (.bool true) ∧ Below w.heap.size w w' := by
 have cF : Hid (Calls Tryz.prog 25 #[.iface 69 (.agg #[.iface 256 (.pointer (some (ad k))), .int .i64 num])] w fun e w' => e = .returned (.tuple #[.int .i64 (k : Int), .int .i64 num]) ∧ Below w.heap.size w w') := fault_all ad k num w h hT hk
 have k0 : ((k : Int) == 0) = false := by rw [beq_eq_false_iff_ne]; omega
 have kk : ((k : Int) == (k : Int)) = true := by rw [beq_iff_eq]
 have nn : (num == num) = true := by rw [beq_iff_eq]
 clear h hT hk
 go_enter Tryz.func17, Tryz.ntmps17
 go_wp2_with fail
 refine cF.out.mono ?_
 rintro e W1 ⟨rfl, hb⟩
 have hb' : Hid (Below w.heap.size w W1) := hb
 clear cF hb
 go_wp2_with fail
 go_ret
 exact ⟨rfl, hb'.out⟩
set_option maxHeartbeats 1000000 in
theorem lfault_none (w : World) : Calls Tryz.prog 17 #[.nilIface, .int .i64 0, .int .i64 0] w fun e w' => e = .returned (.bool true) ∧ Below w.heap.size w w' := by
 have cF : Hid (Calls Tryz.prog 25 #[.nilIface] w fun e w' => e = .returned (.tuple #[.int .i64 0, .int .i64 0]) ∧ w' = w) := fault_nil w
 go_enter Tryz.func17, Tryz.ntmps17
 go_wp2_with fail
 refine cF.out.mono ?_
 rintro e W1 ⟨rfl, rfl⟩
 clear cF
 go_wp2_with fail
 go_ret
 exact ⟨rfl, Below.refl _ _⟩
end Ke
end Go.Proofs.YtkknenmpdimdbaaGreatDoor

namespace Go.Proofs.YtkknenmpdimdbaaGreatDoor
open Go.RowKit
abbrev Lb := ByteArray × ByteArray × ByteArray
def lbC (x : Lb) : List Value := [.string x.1, .string x.2.1, .string x.2.2]
def lowL : List Lb := [
 (⟨#[111, 98, 106, 101, 99, 116, 99, 108, 97, 115, 115]⟩, ⟨#[]⟩, ⟨#[50, 46, 53, 46, 52, 46, 48]⟩),
 (⟨#[97, 108, 105, 97, 115, 101, 100, 111, 98, 106, 101, 99, 116, 110, 97, 109, 101]⟩, ⟨#[97, 108, 105, 97, 115, 101, 100, 101, 110, 116, 114, 121, 110, 97, 109, 101]⟩, ⟨#[50, 46, 53, 46, 52, 46, 49]⟩),
 (⟨#[110, 97, 109, 101]⟩, ⟨#[]⟩, ⟨#[50, 46, 53, 46, 52, 46, 52, 49]⟩),
 (⟨#[100, 105, 115, 116, 105, 110, 103, 117, 105, 115, 104, 101, 100, 110, 97, 109, 101]⟩, ⟨#[]⟩, ⟨#[50, 46, 53, 46, 52, 46, 52, 57]⟩),
 (⟨#[99, 110]⟩, ⟨#[99, 111, 109, 109, 111, 110, 110, 97, 109, 101]⟩, ⟨#[50, 46, 53, 46, 52, 46, 51]⟩),
 (⟨#[115, 110]⟩, ⟨#[115, 117, 114, 110, 97, 109, 101]⟩, ⟨#[50, 46, 53, 46, 52, 46, 52]⟩),
 (⟨#[115, 101, 114, 105, 97, 108, 110, 117, 109, 98, 101, 114]⟩, ⟨#[]⟩, ⟨#[50, 46, 53, 46, 52, 46, 53]⟩),
 (⟨#[99]⟩, ⟨#[99, 111, 117, 110, 116, 114, 121, 110, 97, 109, 101]⟩, ⟨#[50, 46, 53, 46, 52, 46, 54]⟩),
 (⟨#[108]⟩, ⟨#[108, 111, 99, 97, 108, 105, 116, 121, 110, 97, 109, 101]⟩, ⟨#[50, 46, 53, 46, 52, 46, 55]⟩),
 (⟨#[115, 116]⟩, ⟨#[115, 116, 97, 116, 101, 111, 114, 112, 114, 111, 118, 105, 110, 99, 101, 110, 97, 109, 101]⟩, ⟨#[50, 46, 53, 46, 52, 46, 56]⟩),
 (⟨#[115, 116, 114, 101, 101, 116]⟩, ⟨#[115, 116, 114, 101, 101, 116, 97, 100, 100, 114, 101, 115, 115]⟩, ⟨#[50, 46, 53, 46, 52, 46, 57]⟩),
 (⟨#[111]⟩, ⟨#[111, 114, 103, 97, 110, 105, 122, 97, 116, 105, 111, 110, 110, 97, 109, 101]⟩, ⟨#[50, 46, 53, 46, 52, 46, 49, 48]⟩),
 (⟨#[111, 117]⟩, ⟨#[111, 114, 103, 97, 110, 105, 122, 97, 116, 105, 111, 110, 97, 108, 117, 110, 105, 116, 110, 97, 109, 101]⟩, ⟨#[50, 46, 53, 46, 52, 46, 49, 49]⟩),
 (⟨#[116, 105, 116, 108, 101]⟩, ⟨#[]⟩, ⟨#[50, 46, 53, 46, 52, 46, 49, 50]⟩),
 (⟨#[100, 101, 115, 99, 114, 105, 112, 116, 105, 111, 110]⟩, ⟨#[]⟩, ⟨#[50, 46, 53, 46, 52, 46, 49, 51]⟩),
 (⟨#[98, 117, 115, 105, 110, 101, 115, 115, 99, 97, 116, 101, 103, 111, 114, 121]⟩, ⟨#[]⟩, ⟨#[50, 46, 53, 46, 52, 46, 49, 53]⟩),
 (⟨#[112, 111, 115, 116, 97, 108, 97, 100, 100, 114, 101, 115, 115]⟩, ⟨#[]⟩, ⟨#[50, 46, 53, 46, 52, 46, 49, 54]⟩),
 (⟨#[112, 111, 115, 116, 97, 108, 99, 111, 100, 101]⟩, ⟨#[]⟩, ⟨#[50, 46, 53, 46, 52, 46, 49, 55]⟩),
 (⟨#[112, 111, 115, 116, 111, 102, 102, 105, 99, 101, 98, 111, 120]⟩, ⟨#[]⟩, ⟨#[50, 46, 53, 46, 52, 46, 49, 56]⟩),
 (⟨#[112, 104, 121, 115, 105, 99, 97, 108, 100, 101, 108, 105, 118, 101, 114, 121, 111, 102, 102, 105, 99, 101, 110, 97, 109, 101]⟩, ⟨#[]⟩, ⟨#[50, 46, 53, 46, 52, 46, 49, 57]⟩),
 (⟨#[116, 101, 108, 101, 112, 104, 111, 110, 101, 110, 117, 109, 98, 101, 114]⟩, ⟨#[]⟩, ⟨#[50, 46, 53, 46, 52, 46, 50, 48]⟩),
 (⟨#[102, 97, 99, 115, 105, 109, 105, 108, 101, 116, 101, 108, 101, 112, 104, 111, 110, 101, 110, 117, 109, 98, 101, 114]⟩, ⟨#[102, 97, 120]⟩, ⟨#[50, 46, 53, 46, 52, 46, 50, 51]⟩),
 (⟨#[120, 49, 50, 49, 97, 100, 100, 114, 101, 115, 115]⟩, ⟨#[]⟩, ⟨#[50, 46, 53, 46, 52, 46, 50, 52]⟩),
 (⟨#[105, 110, 116, 101, 114, 110, 97, 116, 105, 111, 110, 97, 108, 105, 115, 100, 110, 110, 117, 109, 98, 101, 114]⟩, ⟨#[]⟩, ⟨#[50, 46, 53, 46, 52, 46, 50, 53]⟩),
 (⟨#[114, 101, 103, 105, 115, 116, 101, 114, 101, 100, 97, 100, 100, 114, 101, 115, 115]⟩, ⟨#[]⟩, ⟨#[50, 46, 53, 46, 52, 46, 50, 54]⟩),
 (⟨#[100, 101, 115, 116, 105, 110, 97, 116, 105, 111, 110, 105, 110, 100, 105, 99, 97, 116, 111, 114]⟩, ⟨#[]⟩, ⟨#[50, 46, 53, 46, 52, 46, 50, 55]⟩),
 (⟨#[109, 101, 109, 98, 101, 114]⟩, ⟨#[]⟩, ⟨#[50, 46, 53, 46, 52, 46, 51, 49]⟩),
 (⟨#[111, 119, 110, 101, 114]⟩, ⟨#[]⟩, ⟨#[50, 46, 53, 46, 52, 46, 51, 50]⟩),
 (⟨#[114, 111, 108, 101, 111, 99, 99, 117, 112, 97, 110, 116]⟩, ⟨#[]⟩, ⟨#[50, 46, 53, 46, 52, 46, 51, 51]⟩),
 (⟨#[115, 101, 101, 97, 108, 115, 111]⟩, ⟨#[]⟩, ⟨#[50, 46, 53, 46, 52, 46, 51, 52]⟩),
 (⟨#[117, 115, 101, 114, 112, 97, 115, 115, 119, 111, 114, 100]⟩, ⟨#[]⟩, ⟨#[50, 46, 53, 46, 52, 46, 51, 53]⟩),
 (⟨#[103, 105, 118, 101, 110, 110, 97, 109, 101]⟩, ⟨#[103, 110]⟩, ⟨#[50, 46, 53, 46, 52, 46, 52, 50]⟩),
 (⟨#[105, 110, 105, 116, 105, 97, 108, 115]⟩, ⟨#[]⟩, ⟨#[50, 46, 53, 46, 52, 46, 52, 51]⟩),
 (⟨#[103, 101, 110, 101, 114, 97, 116, 105, 111, 110, 113, 117, 97, 108, 105, 102, 105, 101, 114]⟩, ⟨#[]⟩, ⟨#[50, 46, 53, 46, 52, 46, 52, 52]⟩),
 (⟨#[100, 110, 113, 117, 97, 108, 105, 102, 105, 101, 114]⟩, ⟨#[]⟩, ⟨#[50, 46, 53, 46, 52, 46, 52, 54]⟩),
 (⟨#[104, 111, 117, 115, 101, 105, 100, 101, 110, 116, 105, 102, 105, 101, 114]⟩, ⟨#[]⟩, ⟨#[50, 46, 53, 46, 52, 46, 53, 49]⟩)]
def highL : List Lb := [
 (⟨#[99, 45, 108]⟩, ⟨#[]⟩, ⟨#[50, 46, 53, 46, 52, 46, 55, 46, 49]⟩),
 (⟨#[99, 45, 115, 116]⟩, ⟨#[]⟩, ⟨#[50, 46, 53, 46, 52, 46, 56, 46, 49]⟩),
 (⟨#[99, 45, 111]⟩, ⟨#[]⟩, ⟨#[50, 46, 53, 46, 52, 46, 49, 48, 46, 49]⟩),
 (⟨#[99, 45, 111, 117]⟩, ⟨#[]⟩, ⟨#[50, 46, 53, 46, 52, 46, 49, 49, 46, 49]⟩),
 (⟨#[117, 105, 100]⟩, ⟨#[117, 115, 101, 114, 105, 100]⟩, ⟨#[48, 46, 57, 46, 50, 51, 52, 50, 46, 49, 57, 50, 48, 48, 51, 48, 48, 46, 49, 48, 48, 46, 49, 46, 49]⟩),
 (⟨#[109, 97, 105, 108]⟩, ⟨#[114, 102, 99, 56, 50, 50, 109, 97, 105, 108, 98, 111, 120]⟩, ⟨#[48, 46, 57, 46, 50, 51, 52, 50, 46, 49, 57, 50, 48, 48, 51, 48, 48, 46, 49, 48, 48, 46, 49, 46, 51]⟩),
 (⟨#[114, 111, 111, 109, 110, 117, 109, 98, 101, 114]⟩, ⟨#[]⟩, ⟨#[48, 46, 57, 46, 50, 51, 52, 50, 46, 49, 57, 50, 48, 48, 51, 48, 48, 46, 49, 48, 48, 46, 49, 46, 54]⟩),
 (⟨#[109, 97, 110, 97, 103, 101, 114]⟩, ⟨#[]⟩, ⟨#[48, 46, 57, 46, 50, 51, 52, 50, 46, 49, 57, 50, 48, 48, 51, 48, 48, 46, 49, 48, 48, 46, 49, 46, 49, 48]⟩),
 (⟨#[104, 111, 109, 101, 112, 104, 111, 110, 101]⟩, ⟨#[104, 111, 109, 101, 116, 101, 108, 101, 112, 104, 111, 110, 101, 110, 117, 109, 98, 101, 114]⟩, ⟨#[48, 46, 57, 46, 50, 51, 52, 50, 46, 49, 57, 50, 48, 48, 51, 48, 48, 46, 49, 48, 48, 46, 49, 46, 50, 48]⟩),
 (⟨#[115, 101, 99, 114, 101, 116, 97, 114, 121]⟩, ⟨#[]⟩, ⟨#[48, 46, 57, 46, 50, 51, 52, 50, 46, 49, 57, 50, 48, 48, 51, 48, 48, 46, 49, 48, 48, 46, 49, 46, 50, 49]⟩),
 (⟨#[100, 99]⟩, ⟨#[100, 111, 109, 97, 105, 110, 99, 111, 109, 112, 111, 110, 101, 110, 116]⟩, ⟨#[48, 46, 57, 46, 50, 51, 52, 50, 46, 49, 57, 50, 48, 48, 51, 48, 48, 46, 49, 48, 48, 46, 49, 46, 50, 53]⟩),
 (⟨#[109, 111, 98, 105, 108, 101]⟩, ⟨#[109, 111, 98, 105, 108, 101, 116, 101, 108, 101, 112, 104, 111, 110, 101, 110, 117, 109, 98, 101, 114]⟩, ⟨#[48, 46, 57, 46, 50, 51, 52, 50, 46, 49, 57, 50, 48, 48, 51, 48, 48, 46, 49, 48, 48, 46, 49, 46, 52, 49]⟩),
 (⟨#[112, 97, 103, 101, 114]⟩, ⟨#[112, 97, 103, 101, 114, 116, 101, 108, 101, 112, 104, 111, 110, 101, 110, 117, 109, 98, 101, 114]⟩, ⟨#[48, 46, 57, 46, 50, 51, 52, 50, 46, 49, 57, 50, 48, 48, 51, 48, 48, 46, 49, 48, 48, 46, 49, 46, 52, 50]⟩),
 (⟨#[101, 109, 112, 108, 111, 121, 101, 101, 110, 117, 109, 98, 101, 114]⟩, ⟨#[]⟩, ⟨#[50, 46, 49, 54, 46, 56, 52, 48, 46, 49, 46, 49, 49, 51, 55, 51, 48, 46, 51, 46, 49, 46, 51]⟩),
 (⟨#[100, 105, 115, 112, 108, 97, 121, 110, 97, 109, 101]⟩, ⟨#[]⟩, ⟨#[50, 46, 49, 54, 46, 56, 52, 48, 46, 49, 46, 49, 49, 51, 55, 51, 48, 46, 51, 46, 49, 46, 50, 52, 49]⟩),
 (⟨#[117, 105, 100, 110, 117, 109, 98, 101, 114]⟩, ⟨#[]⟩, ⟨#[49, 46, 51, 46, 54, 46, 49, 46, 49, 46, 49, 46, 49, 46, 48]⟩),
 (⟨#[103, 105, 100, 110, 117, 109, 98, 101, 114]⟩, ⟨#[]⟩, ⟨#[49, 46, 51, 46, 54, 46, 49, 46, 49, 46, 49, 46, 49, 46, 49]⟩),
 (⟨#[104, 111, 109, 101, 100, 105, 114, 101, 99, 116, 111, 114, 121]⟩, ⟨#[]⟩, ⟨#[49, 46, 51, 46, 54, 46, 49, 46, 49, 46, 49, 46, 49, 46, 51]⟩),
 (⟨#[108, 111, 103, 105, 110, 115, 104, 101, 108, 108]⟩, ⟨#[]⟩, ⟨#[49, 46, 51, 46, 54, 46, 49, 46, 49, 46, 49, 46, 49, 46, 52]⟩),
 (⟨#[108, 97, 98, 101, 108, 101, 100, 117, 114, 105]⟩, ⟨#[]⟩, ⟨#[49, 46, 51, 46, 54, 46, 49, 46, 52, 46, 49, 46, 50, 53, 48, 46, 49, 46, 53, 55]⟩),
 (⟨#[99, 114, 101, 97, 116, 101, 116, 105, 109, 101, 115, 116, 97, 109, 112]⟩, ⟨#[]⟩, ⟨#[50, 46, 53, 46, 49, 56, 46, 49]⟩),
 (⟨#[109, 111, 100, 105, 102, 121, 116, 105, 109, 101, 115, 116, 97, 109, 112]⟩, ⟨#[]⟩, ⟨#[50, 46, 53, 46, 49, 56, 46, 50]⟩),
 (⟨#[99, 114, 101, 97, 116, 111, 114, 115, 110, 97, 109, 101]⟩, ⟨#[]⟩, ⟨#[50, 46, 53, 46, 49, 56, 46, 51]⟩),
 (⟨#[109, 111, 100, 105, 102, 105, 101, 114, 115, 110, 97, 109, 101]⟩, ⟨#[]⟩, ⟨#[50, 46, 53, 46, 49, 56, 46, 52]⟩),
 (⟨#[104, 97, 115, 115, 117, 98, 111, 114, 100, 105, 110, 97, 116, 101, 115]⟩, ⟨#[]⟩, ⟨#[50, 46, 53, 46, 49, 56, 46, 57]⟩),
 (⟨#[120, 53, 48, 48, 117, 110, 105, 113, 117, 101, 105, 100, 101, 110, 116, 105, 102, 105, 101, 114]⟩, ⟨#[]⟩, ⟨#[50, 46, 53, 46, 52, 46, 52, 53]⟩)]
def labs : List Lb := lowL ++ highL
def lowC : Array Value := (lowL.flatMap lbC).toArray
def highC : Array Value := (highL.flatMap lbC).toArray
theorem labs_len : labs.length = 62 := rfl
end Go.Proofs.YtkknenmpdimdbaaGreatDoor

namespace Go.Proofs.YtkknenmpdimdbaaGreatDoor
open Go.RowKit
theorem store_low (w : World) (L : List Value) (h : L = lowC.toList) : (storeCells ⟨w.heap.size, 0, none⟩ L 0).run Tryz.prog (w.alloc (.cells Tryz.zeroCells215 215)) = .ok () (w.alloc (.cells lowC 215)) := by
 subst h
 exact run_storeCells_new w _ _ lowC (by kernel_rfl) (by kernel_rfl) (by kernel_rfl)
set_option maxRecDepth 1000000 in
set_option maxHeartbeats 4000000 in
theorem lowLabels_any (w : World) : Calls Tryz.prog 146 #[] w fun e w' => e = .returned (.agg lowC) ∧ Below w.heap.size w w' := by
 go_enter Tryz.func146, Tryz.ntmps146
 go_wp2
 rw [store_low w _ (by kernel_rfl)]
 simp only [Result.andThen]
 rw [Oper.upon_skip]
 go_wp2
 refine bodyPost_ret (v := .agg lowC) ?_ rfl ⟨rfl, (Below.refl _ _).alloc (Nat.le_refl _) _⟩
 exact results_cell_row rfl _ _ w.heap.size 215 lowC (0, 0) _ rfl (heap_alloc_last w _) Tryz.underlying215 rfl (by kernel_rfl)
end Go.Proofs.YtkknenmpdimdbaaGreatDoor

namespace Go.Proofs.YtkknenmpdimdbaaGreatDoor
open Go.RowKit
theorem store_high (w : World) (L : List Value) (h : L = highC.toList) : (storeCells ⟨w.heap.size, 0, none⟩ L 0).run Tryz.prog (w.alloc (.cells Tryz.zeroCells217 217)) = .ok () (w.alloc (.cells highC 217)) := by
 subst h
 exact run_storeCells_new w _ _ highC (by kernel_rfl) (by kernel_rfl) (by kernel_rfl)
set_option maxRecDepth 1000000 in
set_option maxHeartbeats 4000000 in
theorem highLabels_any (w : World) : Calls Tryz.prog 147 #[] w fun e w' => e = .returned (.agg highC) ∧ Below w.heap.size w w' := by
 go_enter Tryz.func147, Tryz.ntmps147
 go_wp2
 rw [store_high w _ (by kernel_rfl)]
 simp only [Result.andThen]
 rw [Oper.upon_skip]
 go_wp2
 refine bodyPost_ret (v := .agg highC) ?_ rfl ⟨rfl, (Below.refl _ _).alloc (Nat.le_refl _) _⟩
 exact results_cell_row rfl _ _ w.heap.size 217 highC (0, 0) _ rfl (heap_alloc_last w _) Tryz.underlying217 rfl (by kernel_rfl)
end Go.Proofs.YtkknenmpdimdbaaGreatDoor

namespace Go.Proofs.YtkknenmpdimdbaaGreatDoor
open Go.RowKit
def rowL (i : Fin 62) : Lb := labs[i.1]'(by rw [labs_len]; exact i.2)
def rowV (i : Fin 62) : Value := .agg #[.string (rowL i).1, .string (rowL i).2.1, .string (rowL i).2.2]
set_option maxRecDepth 100000 in
theorem idx_low : ∀ (k : Nat) (hk : k < 36) (W : World), (Instr.index 215 (.agg lowC) (.int .i64 (k : Int))).run Tryz.prog W = .ok (rowV ⟨k, by omega⟩) W
 | 0, _, W => by kernel_rfl
 | 1, _, W => by kernel_rfl
 | 2, _, W => by kernel_rfl
 | 3, _, W => by kernel_rfl
 | 4, _, W => by kernel_rfl
 | 5, _, W => by kernel_rfl
 | 6, _, W => by kernel_rfl
 | 7, _, W => by kernel_rfl
 | 8, _, W => by kernel_rfl
 | 9, _, W => by kernel_rfl
 | 10, _, W => by kernel_rfl
 | 11, _, W => by kernel_rfl
 | 12, _, W => by kernel_rfl
 | 13, _, W => by kernel_rfl
 | 14, _, W => by kernel_rfl
 | 15, _, W => by kernel_rfl
 | 16, _, W => by kernel_rfl
 | 17, _, W => by kernel_rfl
 | 18, _, W => by kernel_rfl
 | 19, _, W => by kernel_rfl
 | 20, _, W => by kernel_rfl
 | 21, _, W => by kernel_rfl
 | 22, _, W => by kernel_rfl
 | 23, _, W => by kernel_rfl
 | 24, _, W => by kernel_rfl
 | 25, _, W => by kernel_rfl
 | 26, _, W => by kernel_rfl
 | 27, _, W => by kernel_rfl
 | 28, _, W => by kernel_rfl
 | 29, _, W => by kernel_rfl
 | 30, _, W => by kernel_rfl
 | 31, _, W => by kernel_rfl
 | 32, _, W => by kernel_rfl
 | 33, _, W => by kernel_rfl
 | 34, _, W => by kernel_rfl
 | 35, _, W => by kernel_rfl
 | k + 36, hk, _ => absurd hk (by omega)
set_option maxRecDepth 100000 in
theorem idx_high : ∀ (k : Nat) (hk : k < 26) (W : World), (Instr.index 217 (.agg highC) (.int .i64 (k : Int))).run Tryz.prog W = .ok (rowV ⟨36 + k, by omega⟩) W
 | 0, _, W => by kernel_rfl
 | 1, _, W => by kernel_rfl
 | 2, _, W => by kernel_rfl
 | 3, _, W => by kernel_rfl
 | 4, _, W => by kernel_rfl
 | 5, _, W => by kernel_rfl
 | 6, _, W => by kernel_rfl
 | 7, _, W => by kernel_rfl
 | 8, _, W => by kernel_rfl
 | 9, _, W => by kernel_rfl
 | 10, _, W => by kernel_rfl
 | 11, _, W => by kernel_rfl
 | 12, _, W => by kernel_rfl
 | 13, _, W => by kernel_rfl
 | 14, _, W => by kernel_rfl
 | 15, _, W => by kernel_rfl
 | 16, _, W => by kernel_rfl
 | 17, _, W => by kernel_rfl
 | 18, _, W => by kernel_rfl
 | 19, _, W => by kernel_rfl
 | 20, _, W => by kernel_rfl
 | 21, _, W => by kernel_rfl
 | 22, _, W => by kernel_rfl
 | 23, _, W => by kernel_rfl
 | 24, _, W => by kernel_rfl
 | 25, _, W => by kernel_rfl
 | k + 26, hk, _ => absurd hk (by omega)
end Go.Proofs.YtkknenmpdimdbaaGreatDoor
