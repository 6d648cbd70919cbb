import Derived.Test.YtkknenmpdimdbaaGreatDoorKfD
import Derived.Deep.RegionHeld3
import Derived.Deep.RegionHeldLaw
namespace Go.Proofs.YtkknenmpdimdbaaGreatDoor
namespace Ke
open Go.RowKit
set_option linter.unusedVariables false
set_option linter.unusedSimpArgs false
set_option maxRecDepth 100000

/-- The ten reasons: the variable of each number. -/
def SenL : List (Nat × Nat) := [(50, 0), (51, 1), (52, 2), (53, 3), (54, 4), (55, 5), (56, 6), (57, 7), (58, 8), (59, 9)]
/-- Each variable holds a pointer of its own. -/
def Sen (ad : Nat → Addr) (W : World) : Prop :=
  (∀ x ∈ SenL, W.cell? ⟨x.2, 0, none⟩ = some (.iface 256 (.pointer (some (ad x.1)))) ∧ ∃ c t, W.heap[(ad x.1).block]? = some (.cells c t (0, 0))) ∧ (∀ x ∈ SenL, ∀ y ∈ SenL, x.1 ≠ y.1 → ad x.1 ≠ ad y.1)
theorem Sen.below {ad : Nat → Addr} {W W' : World} (h : Sen ad W) (hb : Below W.heap.size W W') : Sen ad W' := by
  refine ⟨fun x hx => ?_, h.2⟩
  obtain ⟨h1, c, t, h2⟩ := h.1 x hx
  exact ⟨(hb.cell (World.block_lt_of_cell? _ _ h1)).trans h1, c, t, by rw [hb.block _ (Array.getElem?_eq_some_iff.1 h2).1]; exact h2⟩
theorem is_any {ad : Nat → Addr} {W : World} (h : Sen ad W) (x y : Nat × Nat) (hx : x ∈ SenL) (hy : y ∈ SenL) (num : Int) :
    Calls Tryz.prog 38 #[.iface 69 (.agg #[.iface 256 (.pointer (some (ad x.1))), .int .i64 num]), .iface 256 (.pointer (some (ad y.1)))] W fun e w' => e = .returned (.bool (decide (x.1 = y.1))) ∧ Below W.heap.size W w' := by
  by_cases e : x.1 = y.1
  · rw [e, decide_eq_true rfl]
    exact is_same _ _ _
  · rw [decide_eq_false e]
    obtain ⟨_, c, t, h2⟩ := h.1 x hx
    obtain ⟨_, c', t', h2'⟩ := h.1 y hy
    exact is_other _ _ _ _ _ _ _ _ (h.2 x hx y hy e) h2 h2'
set_option maxHeartbeats 4000000 in
theorem number_50 (ad : Nat → Addr) (num : Int) (w : World) (h : Sen ad w) :
    Calls Tryz.prog 50 #[.agg #[.iface 256 (.pointer (some (ad 50))), .int .i64 num]] w fun e w' => e = .returned (.int .i64 50) ∧ Below w.heap.size w w' := by
  obtain ⟨W0, hW0⟩ : ∃ W0, w.alloc (.cells #[.iface 256 (.pointer (some (ad 50))), .int .i64 num] 69) = W0 := ⟨_, rfl⟩
  have b0 : Below w.heap.size w W0 := by rw [← hW0]; exact (Below.refl _ _).alloc (Nat.le_refl _) _
  have x0 : W0.heap[w.heap.size]? = some (.cells #[.iface 256 (.pointer (some (ad 50))), .int .i64 num] 69 (0, 0)) := by rw [← hW0]; exact heap_alloc_new _ _
  have S0 : Hid (Sen ad W0 ∧ Below w.heap.size w W0 ∧ W0.heap[w.heap.size]? = some (.cells #[.iface 256 (.pointer (some (ad 50))), .int .i64 num] 69 (0, 0))) := ⟨h.below b0, b0, x0⟩
  have p0 : W0.cell? ⟨w.heap.size, 0, none⟩ = some (.iface 256 (.pointer (some (ad 50)))) := by rw [cell_of_row _ _ _ _ _ _ x0]; rfl
  have p1 : W0.cell? ⟨w.heap.size, 1, none⟩ = some (.int .i64 num) := by rw [cell_of_row _ _ _ _ _ _ x0]; rfl
  have p2 : W0.cell? ⟨0, 0, none⟩ = some (.iface 256 (.pointer (some (ad 50)))) := (S0.out.1.1 (50, 0) (by decide)).1
  clear b0 x0 h
  go_enter Tryz.func50, Tryz.ntmps50
  have c0 : Hid (Calls Tryz.prog 38 #[.iface 69 (.agg #[.iface 256 (.pointer (some (ad 50))), .int .i64 num]), .iface 256 (.pointer (some (ad 50)))] W0 fun e w' => e = .returned (.bool true) ∧ Below W0.heap.size W0 w') := is_any S0.out.1 (50, 0) (50, 0) (by decide) (by decide) num
  go_wp2_with fail
  refine c0.out.mono ?_
  rintro e W1 ⟨rfl, hb⟩
  have hfin : Hid (Below w.heap.size w W1) := S0.out.2.1.trans (hb.mono S0.out.2.1.size)
  clear hb c0 S0
  go_wp2_with fail
  go_ret
  exact ⟨rfl, hfin.out⟩
set_option maxHeartbeats 4000000 in
theorem number_51 (ad : Nat → Addr) (num : Int) (w : World) (h : Sen ad w) :
    Calls Tryz.prog 50 #[.agg #[.iface 256 (.pointer (some (ad 51))), .int .i64 num]] w fun e w' => e = .returned (.int .i64 51) ∧ Below w.heap.size w w' := by
  obtain ⟨W0, hW0⟩ : ∃ W0, w.alloc (.cells #[.iface 256 (.pointer (some (ad 51))), .int .i64 num] 69) = W0 := ⟨_, rfl⟩
  have b0 : Below w.heap.size w W0 := by rw [← hW0]; exact (Below.refl _ _).alloc (Nat.le_refl _) _
  have x0 : W0.heap[w.heap.size]? = some (.cells #[.iface 256 (.pointer (some (ad 51))), .int .i64 num] 69 (0, 0)) := by rw [← hW0]; exact heap_alloc_new _ _
  have S0 : Hid (Sen ad W0 ∧ Below w.heap.size w W0 ∧ W0.heap[w.heap.size]? = some (.cells #[.iface 256 (.pointer (some (ad 51))), .int .i64 num] 69 (0, 0))) := ⟨h.below b0, b0, x0⟩
  have p0 : W0.cell? ⟨w.heap.size, 0, none⟩ = some (.iface 256 (.pointer (some (ad 51)))) := by rw [cell_of_row _ _ _ _ _ _ x0]; rfl
  have p1 : W0.cell? ⟨w.heap.size, 1, none⟩ = some (.int .i64 num) := by rw [cell_of_row _ _ _ _ _ _ x0]; rfl
  have p2 : W0.cell? ⟨0, 0, none⟩ = some (.iface 256 (.pointer (some (ad 50)))) := (S0.out.1.1 (50, 0) (by decide)).1
  clear b0 x0 h
  go_enter Tryz.func50, Tryz.ntmps50
  have c0 : Hid (Calls Tryz.prog 38 #[.iface 69 (.agg #[.iface 256 (.pointer (some (ad 51))), .int .i64 num]), .iface 256 (.pointer (some (ad 50)))] W0 fun e w' => e = .returned (.bool false) ∧ Below W0.heap.size W0 w') := is_any S0.out.1 (51, 1) (50, 0) (by decide) (by decide) num
  go_wp2_with fail
  refine c0.out.mono ?_
  rintro e W1 ⟨rfl, hb⟩
  have S1 : Hid (Sen ad W1 ∧ Below w.heap.size w W1 ∧ W1.heap[w.heap.size]? = some (.cells #[.iface 256 (.pointer (some (ad 51))), .int .i64 num] 69 (0, 0))) := ⟨S0.out.1.below hb, S0.out.2.1.trans (hb.mono S0.out.2.1.size), by rw [hb.block _ (Array.getElem?_eq_some_iff.1 S0.out.2.2).1]; exact S0.out.2.2⟩
  clear hb c0 S0 p0 p1 p2
  have p0 : W1.cell? ⟨w.heap.size, 0, none⟩ = some (.iface 256 (.pointer (some (ad 51)))) := by rw [cell_of_row _ _ _ _ _ _ S1.out.2.2]; rfl
  have p1 : W1.cell? ⟨w.heap.size, 1, none⟩ = some (.int .i64 num) := by rw [cell_of_row _ _ _ _ _ _ S1.out.2.2]; rfl
  have p2 : W1.cell? ⟨1, 0, none⟩ = some (.iface 256 (.pointer (some (ad 51)))) := (S1.out.1.1 (51, 1) (by decide)).1
  have c1 : Hid (Calls Tryz.prog 38 #[.iface 69 (.agg #[.iface 256 (.pointer (some (ad 51))), .int .i64 num]), .iface 256 (.pointer (some (ad 51)))] W1 fun e w' => e = .returned (.bool true) ∧ Below W1.heap.size W1 w') := is_any S1.out.1 (51, 1) (51, 1) (by decide) (by decide) num
  go_wp2_with fail
  refine c1.out.mono ?_
  rintro e W2 ⟨rfl, hb⟩
  have hfin : Hid (Below w.heap.size w W2) := S1.out.2.1.trans (hb.mono S1.out.2.1.size)
  clear hb c1 S1
  go_wp2_with fail
  go_ret
  exact ⟨rfl, hfin.out⟩
set_option maxHeartbeats 4000000 in
theorem number_57 (ad : Nat → Addr) (num : Int) (w : World) (h : Sen ad w) :
    Calls Tryz.prog 50 #[.agg #[.iface 256 (.pointer (some (ad 57))), .int .i64 num]] w fun e w' => e = .returned (.int .i64 57) ∧ Below w.heap.size w w' := by
  obtain ⟨W0, hW0⟩ : ∃ W0, w.alloc (.cells #[.iface 256 (.pointer (some (ad 57))), .int .i64 num] 69) = W0 := ⟨_, rfl⟩
  have b0 : Below w.heap.size w W0 := by rw [← hW0]; exact (Below.refl _ _).alloc (Nat.le_refl _) _
  have x0 : W0.heap[w.heap.size]? = some (.cells #[.iface 256 (.pointer (some (ad 57))), .int .i64 num] 69 (0, 0)) := by rw [← hW0]; exact heap_alloc_new _ _
  have S0 : Hid (Sen ad W0 ∧ Below w.heap.size w W0 ∧ W0.heap[w.heap.size]? = some (.cells #[.iface 256 (.pointer (some (ad 57))), .int .i64 num] 69 (0, 0))) := ⟨h.below b0, b0, x0⟩
  have p0 : W0.cell? ⟨w.heap.size, 0, none⟩ = some (.iface 256 (.pointer (some (ad 57)))) := by rw [cell_of_row _ _ _ _ _ _ x0]; rfl
  have p1 : W0.cell? ⟨w.heap.size, 1, none⟩ = some (.int .i64 num) := by rw [cell_of_row _ _ _ _ _ _ x0]; rfl
  have p2 : W0.cell? ⟨0, 0, none⟩ = some (.iface 256 (.pointer (some (ad 50)))) := (S0.out.1.1 (50, 0) (by decide)).1
  clear b0 x0 h
  go_enter Tryz.func50, Tryz.ntmps50
  have c0 : Hid (Calls Tryz.prog 38 #[.iface 69 (.agg #[.iface 256 (.pointer (some (ad 57))), .int .i64 num]), .iface 256 (.pointer (some (ad 50)))] W0 fun e w' => e = .returned (.bool false) ∧ Below W0.heap.size W0 w') := is_any S0.out.1 (57, 7) (50, 0) (by decide) (by decide) num
  go_wp2_with fail
  refine c0.out.mono ?_
  rintro e W1 ⟨rfl, hb⟩
  have S1 : Hid (Sen ad W1 ∧ Below w.heap.size w W1 ∧ W1.heap[w.heap.size]? = some (.cells #[.iface 256 (.pointer (some (ad 57))), .int .i64 num] 69 (0, 0))) := ⟨S0.out.1.below hb, S0.out.2.1.trans (hb.mono S0.out.2.1.size), by rw [hb.block _ (Array.getElem?_eq_some_iff.1 S0.out.2.2).1]; exact S0.out.2.2⟩
  clear hb c0 S0 p0 p1 p2
  have p0 : W1.cell? ⟨w.heap.size, 0, none⟩ = some (.iface 256 (.pointer (some (ad 57)))) := by rw [cell_of_row _ _ _ _ _ _ S1.out.2.2]; rfl
  have p1 : W1.cell? ⟨w.heap.size, 1, none⟩ = some (.int .i64 num) := by rw [cell_of_row _ _ _ _ _ _ S1.out.2.2]; rfl
  have p2 : W1.cell? ⟨1, 0, none⟩ = some (.iface 256 (.pointer (some (ad 51)))) := (S1.out.1.1 (51, 1) (by decide)).1
  have c1 : Hid (Calls Tryz.prog 38 #[.iface 69 (.agg #[.iface 256 (.pointer (some (ad 57))), .int .i64 num]), .iface 256 (.pointer (some (ad 51)))] W1 fun e w' => e = .returned (.bool false) ∧ Below W1.heap.size W1 w') := is_any S1.out.1 (57, 7) (51, 1) (by decide) (by decide) num
  go_wp2_with fail
  refine c1.out.mono ?_
  rintro e W2 ⟨rfl, hb⟩
  have S2 : Hid (Sen ad W2 ∧ Below w.heap.size w W2 ∧ W2.heap[w.heap.size]? = some (.cells #[.iface 256 (.pointer (some (ad 57))), .int .i64 num] 69 (0, 0))) := ⟨S1.out.1.below hb, S1.out.2.1.trans (hb.mono S1.out.2.1.size), by rw [hb.block _ (Array.getElem?_eq_some_iff.1 S1.out.2.2).1]; exact S1.out.2.2⟩
  clear hb c1 S1 p0 p1 p2
  have p0 : W2.cell? ⟨w.heap.size, 0, none⟩ = some (.iface 256 (.pointer (some (ad 57)))) := by rw [cell_of_row _ _ _ _ _ _ S2.out.2.2]; rfl
  have p1 : W2.cell? ⟨w.heap.size, 1, none⟩ = some (.int .i64 num) := by rw [cell_of_row _ _ _ _ _ _ S2.out.2.2]; rfl
  have p2 : W2.cell? ⟨2, 0, none⟩ = some (.iface 256 (.pointer (some (ad 52)))) := (S2.out.1.1 (52, 2) (by decide)).1
  have c2 : Hid (Calls Tryz.prog 38 #[.iface 69 (.agg #[.iface 256 (.pointer (some (ad 57))), .int .i64 num]), .iface 256 (.pointer (some (ad 52)))] W2 fun e w' => e = .returned (.bool false) ∧ Below W2.heap.size W2 w') := is_any S2.out.1 (57, 7) (52, 2) (by decide) (by decide) num
  go_wp2_with fail
  refine c2.out.mono ?_
  rintro e W3 ⟨rfl, hb⟩
  have S3 : Hid (Sen ad W3 ∧ Below w.heap.size w W3 ∧ W3.heap[w.heap.size]? = some (.cells #[.iface 256 (.pointer (some (ad 57))), .int .i64 num] 69 (0, 0))) := ⟨S2.out.1.below hb, S2.out.2.1.trans (hb.mono S2.out.2.1.size), by rw [hb.block _ (Array.getElem?_eq_some_iff.1 S2.out.2.2).1]; exact S2.out.2.2⟩
  clear hb c2 S2 p0 p1 p2
  have p0 : W3.cell? ⟨w.heap.size, 0, none⟩ = some (.iface 256 (.pointer (some (ad 57)))) := by rw [cell_of_row _ _ _ _ _ _ S3.out.2.2]; rfl
  have p1 : W3.cell? ⟨w.heap.size, 1, none⟩ = some (.int .i64 num) := by rw [cell_of_row _ _ _ _ _ _ S3.out.2.2]; rfl
  have p2 : W3.cell? ⟨3, 0, none⟩ = some (.iface 256 (.pointer (some (ad 53)))) := (S3.out.1.1 (53, 3) (by decide)).1
  have c3 : Hid (Calls Tryz.prog 38 #[.iface 69 (.agg #[.iface 256 (.pointer (some (ad 57))), .int .i64 num]), .iface 256 (.pointer (some (ad 53)))] W3 fun e w' => e = .returned (.bool false) ∧ Below W3.heap.size W3 w') := is_any S3.out.1 (57, 7) (53, 3) (by decide) (by decide) num
  go_wp2_with fail
  refine c3.out.mono ?_
  rintro e W4 ⟨rfl, hb⟩
  have S4 : Hid (Sen ad W4 ∧ Below w.heap.size w W4 ∧ W4.heap[w.heap.size]? = some (.cells #[.iface 256 (.pointer (some (ad 57))), .int .i64 num] 69 (0, 0))) := ⟨S3.out.1.below hb, S3.out.2.1.trans (hb.mono S3.out.2.1.size), by rw [hb.block _ (Array.getElem?_eq_some_iff.1 S3.out.2.2).1]; exact S3.out.2.2⟩
  clear hb c3 S3 p0 p1 p2
  have p0 : W4.cell? ⟨w.heap.size, 0, none⟩ = some (.iface 256 (.pointer (some (ad 57)))) := by rw [cell_of_row _ _ _ _ _ _ S4.out.2.2]; rfl
  have p1 : W4.cell? ⟨w.heap.size, 1, none⟩ = some (.int .i64 num) := by rw [cell_of_row _ _ _ _ _ _ S4.out.2.2]; rfl
  have p2 : W4.cell? ⟨4, 0, none⟩ = some (.iface 256 (.pointer (some (ad 54)))) := (S4.out.1.1 (54, 4) (by decide)).1
  have c4 : Hid (Calls Tryz.prog 38 #[.iface 69 (.agg #[.iface 256 (.pointer (some (ad 57))), .int .i64 num]), .iface 256 (.pointer (some (ad 54)))] W4 fun e w' => e = .returned (.bool false) ∧ Below W4.heap.size W4 w') := is_any S4.out.1 (57, 7) (54, 4) (by decide) (by decide) num
  go_wp2_with fail
  refine c4.out.mono ?_
  rintro e W5 ⟨rfl, hb⟩
  have S5 : Hid (Sen ad W5 ∧ Below w.heap.size w W5 ∧ W5.heap[w.heap.size]? = some (.cells #[.iface 256 (.pointer (some (ad 57))), .int .i64 num] 69 (0, 0))) := ⟨S4.out.1.below hb, S4.out.2.1.trans (hb.mono S4.out.2.1.size), by rw [hb.block _ (Array.getElem?_eq_some_iff.1 S4.out.2.2).1]; exact S4.out.2.2⟩
  clear hb c4 S4 p0 p1 p2
  have p0 : W5.cell? ⟨w.heap.size, 0, none⟩ = some (.iface 256 (.pointer (some (ad 57)))) := by rw [cell_of_row _ _ _ _ _ _ S5.out.2.2]; rfl
  have p1 : W5.cell? ⟨w.heap.size, 1, none⟩ = some (.int .i64 num) := by rw [cell_of_row _ _ _ _ _ _ S5.out.2.2]; rfl
  have p2 : W5.cell? ⟨5, 0, none⟩ = some (.iface 256 (.pointer (some (ad 55)))) := (S5.out.1.1 (55, 5) (by decide)).1
  have c5 : Hid (Calls Tryz.prog 38 #[.iface 69 (.agg #[.iface 256 (.pointer (some (ad 57))), .int .i64 num]), .iface 256 (.pointer (some (ad 55)))] W5 fun e w' => e = .returned (.bool false) ∧ Below W5.heap.size W5 w') := is_any S5.out.1 (57, 7) (55, 5) (by decide) (by decide) num
  go_wp2_with fail
  refine c5.out.mono ?_
  rintro e W6 ⟨rfl, hb⟩
  have S6 : Hid (Sen ad W6 ∧ Below w.heap.size w W6 ∧ W6.heap[w.heap.size]? = some (.cells #[.iface 256 (.pointer (some (ad 57))), .int .i64 num] 69 (0, 0))) := ⟨S5.out.1.below hb, S5.out.2.1.trans (hb.mono S5.out.2.1.size), by rw [hb.block _ (Array.getElem?_eq_some_iff.1 S5.out.2.2).1]; exact S5.out.2.2⟩
  clear hb c5 S5 p0 p1 p2
  have p0 : W6.cell? ⟨w.heap.size, 0, none⟩ = some (.iface 256 (.pointer (some (ad 57)))) := by rw [cell_of_row _ _ _ _ _ _ S6.out.2.2]; rfl
  have p1 : W6.cell? ⟨w.heap.size, 1, none⟩ = some (.int .i64 num) := by rw [cell_of_row _ _ _ _ _ _ S6.out.2.2]; rfl
  have p2 : W6.cell? ⟨6, 0, none⟩ = some (.iface 256 (.pointer (some (ad 56)))) := (S6.out.1.1 (56, 6) (by decide)).1
  have c6 : Hid (Calls Tryz.prog 38 #[.iface 69 (.agg #[.iface 256 (.pointer (some (ad 57))), .int .i64 num]), .iface 256 (.pointer (some (ad 56)))] W6 fun e w' => e = .returned (.bool false) ∧ Below W6.heap.size W6 w') := is_any S6.out.1 (57, 7) (56, 6) (by decide) (by decide) num
  go_wp2_with fail
  refine c6.out.mono ?_
  rintro e W7 ⟨rfl, hb⟩
  have S7 : Hid (Sen ad W7 ∧ Below w.heap.size w W7 ∧ W7.heap[w.heap.size]? = some (.cells #[.iface 256 (.pointer (some (ad 57))), .int .i64 num] 69 (0, 0))) := ⟨S6.out.1.below hb, S6.out.2.1.trans (hb.mono S6.out.2.1.size), by rw [hb.block _ (Array.getElem?_eq_some_iff.1 S6.out.2.2).1]; exact S6.out.2.2⟩
  clear hb c6 S6 p0 p1 p2
  have p0 : W7.cell? ⟨w.heap.size, 0, none⟩ = some (.iface 256 (.pointer (some (ad 57)))) := by rw [cell_of_row _ _ _ _ _ _ S7.out.2.2]; rfl
  have p1 : W7.cell? ⟨w.heap.size, 1, none⟩ = some (.int .i64 num) := by rw [cell_of_row _ _ _ _ _ _ S7.out.2.2]; rfl
  have p2 : W7.cell? ⟨7, 0, none⟩ = some (.iface 256 (.pointer (some (ad 57)))) := (S7.out.1.1 (57, 7) (by decide)).1
  have c7 : Hid (Calls Tryz.prog 38 #[.iface 69 (.agg #[.iface 256 (.pointer (some (ad 57))), .int .i64 num]), .iface 256 (.pointer (some (ad 57)))] W7 fun e w' => e = .returned (.bool true) ∧ Below W7.heap.size W7 w') := is_any S7.out.1 (57, 7) (57, 7) (by decide) (by decide) num
  go_wp2_with fail
  refine c7.out.mono ?_
  rintro e W8 ⟨rfl, hb⟩
  have hfin : Hid (Below w.heap.size w W8) := S7.out.2.1.trans (hb.mono S7.out.2.1.size)
  clear hb c7 S7
  go_wp2_with fail
  go_ret
  exact ⟨rfl, hfin.out⟩
set_option maxHeartbeats 4000000 in
theorem number_58 (ad : Nat → Addr) (num : Int) (w : World) (h : Sen ad w) :
    Calls Tryz.prog 50 #[.agg #[.iface 256 (.pointer (some (ad 58))), .int .i64 num]] w fun e w' => e = .returned (.int .i64 58) ∧ Below w.heap.size w w' := by
  obtain ⟨W0, hW0⟩ : ∃ W0, w.alloc (.cells #[.iface 256 (.pointer (some (ad 58))), .int .i64 num] 69) = W0 := ⟨_, rfl⟩
  have b0 : Below w.heap.size w W0 := by rw [← hW0]; exact (Below.refl _ _).alloc (Nat.le_refl _) _
  have x0 : W0.heap[w.heap.size]? = some (.cells #[.iface 256 (.pointer (some (ad 58))), .int .i64 num] 69 (0, 0)) := by rw [← hW0]; exact heap_alloc_new _ _
  have S0 : Hid (Sen ad W0 ∧ Below w.heap.size w W0 ∧ W0.heap[w.heap.size]? = some (.cells #[.iface 256 (.pointer (some (ad 58))), .int .i64 num] 69 (0, 0))) := ⟨h.below b0, b0, x0⟩
  have p0 : W0.cell? ⟨w.heap.size, 0, none⟩ = some (.iface 256 (.pointer (some (ad 58)))) := by rw [cell_of_row _ _ _ _ _ _ x0]; rfl
  have p1 : W0.cell? ⟨w.heap.size, 1, none⟩ = some (.int .i64 num) := by rw [cell_of_row _ _ _ _ _ _ x0]; rfl
  have p2 : W0.cell? ⟨0, 0, none⟩ = some (.iface 256 (.pointer (some (ad 50)))) := (S0.out.1.1 (50, 0) (by decide)).1
  clear b0 x0 h
  go_enter Tryz.func50, Tryz.ntmps50
  have c0 : Hid (Calls Tryz.prog 38 #[.iface 69 (.agg #[.iface 256 (.pointer (some (ad 58))), .int .i64 num]), .iface 256 (.pointer (some (ad 50)))] W0 fun e w' => e = .returned (.bool false) ∧ Below W0.heap.size W0 w') := is_any S0.out.1 (58, 8) (50, 0) (by decide) (by decide) num
  go_wp2_with fail
  refine c0.out.mono ?_
  rintro e W1 ⟨rfl, hb⟩
  have S1 : Hid (Sen ad W1 ∧ Below w.heap.size w W1 ∧ W1.heap[w.heap.size]? = some (.cells #[.iface 256 (.pointer (some (ad 58))), .int .i64 num] 69 (0, 0))) := ⟨S0.out.1.below hb, S0.out.2.1.trans (hb.mono S0.out.2.1.size), by rw [hb.block _ (Array.getElem?_eq_some_iff.1 S0.out.2.2).1]; exact S0.out.2.2⟩
  clear hb c0 S0 p0 p1 p2
  have p0 : W1.cell? ⟨w.heap.size, 0, none⟩ = some (.iface 256 (.pointer (some (ad 58)))) := by rw [cell_of_row _ _ _ _ _ _ S1.out.2.2]; rfl
  have p1 : W1.cell? ⟨w.heap.size, 1, none⟩ = some (.int .i64 num) := by rw [cell_of_row _ _ _ _ _ _ S1.out.2.2]; rfl
  have p2 : W1.cell? ⟨1, 0, none⟩ = some (.iface 256 (.pointer (some (ad 51)))) := (S1.out.1.1 (51, 1) (by decide)).1
  have c1 : Hid (Calls Tryz.prog 38 #[.iface 69 (.agg #[.iface 256 (.pointer (some (ad 58))), .int .i64 num]), .iface 256 (.pointer (some (ad 51)))] W1 fun e w' => e = .returned (.bool false) ∧ Below W1.heap.size W1 w') := is_any S1.out.1 (58, 8) (51, 1) (by decide) (by decide) num
  go_wp2_with fail
  refine c1.out.mono ?_
  rintro e W2 ⟨rfl, hb⟩
  have S2 : Hid (Sen ad W2 ∧ Below w.heap.size w W2 ∧ W2.heap[w.heap.size]? = some (.cells #[.iface 256 (.pointer (some (ad 58))), .int .i64 num] 69 (0, 0))) := ⟨S1.out.1.below hb, S1.out.2.1.trans (hb.mono S1.out.2.1.size), by rw [hb.block _ (Array.getElem?_eq_some_iff.1 S1.out.2.2).1]; exact S1.out.2.2⟩
  clear hb c1 S1 p0 p1 p2
  have p0 : W2.cell? ⟨w.heap.size, 0, none⟩ = some (.iface 256 (.pointer (some (ad 58)))) := by rw [cell_of_row _ _ _ _ _ _ S2.out.2.2]; rfl
  have p1 : W2.cell? ⟨w.heap.size, 1, none⟩ = some (.int .i64 num) := by rw [cell_of_row _ _ _ _ _ _ S2.out.2.2]; rfl
  have p2 : W2.cell? ⟨2, 0, none⟩ = some (.iface 256 (.pointer (some (ad 52)))) := (S2.out.1.1 (52, 2) (by decide)).1
  have c2 : Hid (Calls Tryz.prog 38 #[.iface 69 (.agg #[.iface 256 (.pointer (some (ad 58))), .int .i64 num]), .iface 256 (.pointer (some (ad 52)))] W2 fun e w' => e = .returned (.bool false) ∧ Below W2.heap.size W2 w') := is_any S2.out.1 (58, 8) (52, 2) (by decide) (by decide) num
  go_wp2_with fail
  refine c2.out.mono ?_
  rintro e W3 ⟨rfl, hb⟩
  have S3 : Hid (Sen ad W3 ∧ Below w.heap.size w W3 ∧ W3.heap[w.heap.size]? = some (.cells #[.iface 256 (.pointer (some (ad 58))), .int .i64 num] 69 (0, 0))) := ⟨S2.out.1.below hb, S2.out.2.1.trans (hb.mono S2.out.2.1.size), by rw [hb.block _ (Array.getElem?_eq_some_iff.1 S2.out.2.2).1]; exact S2.out.2.2⟩
  clear hb c2 S2 p0 p1 p2
  have p0 : W3.cell? ⟨w.heap.size, 0, none⟩ = some (.iface 256 (.pointer (some (ad 58)))) := by rw [cell_of_row _ _ _ _ _ _ S3.out.2.2]; rfl
  have p1 : W3.cell? ⟨w.heap.size, 1, none⟩ = some (.int .i64 num) := by rw [cell_of_row _ _ _ _ _ _ S3.out.2.2]; rfl
  have p2 : W3.cell? ⟨3, 0, none⟩ = some (.iface 256 (.pointer (some (ad 53)))) := (S3.out.1.1 (53, 3) (by decide)).1
  have c3 : Hid (Calls Tryz.prog 38 #[.iface 69 (.agg #[.iface 256 (.pointer (some (ad 58))), .int .i64 num]), .iface 256 (.pointer (some (ad 53)))] W3 fun e w' => e = .returned (.bool false) ∧ Below W3.heap.size W3 w') := is_any S3.out.1 (58, 8) (53, 3) (by decide) (by decide) num
  go_wp2_with fail
  refine c3.out.mono ?_
  rintro e W4 ⟨rfl, hb⟩
  have S4 : Hid (Sen ad W4 ∧ Below w.heap.size w W4 ∧ W4.heap[w.heap.size]? = some (.cells #[.iface 256 (.pointer (some (ad 58))), .int .i64 num] 69 (0, 0))) := ⟨S3.out.1.below hb, S3.out.2.1.trans (hb.mono S3.out.2.1.size), by rw [hb.block _ (Array.getElem?_eq_some_iff.1 S3.out.2.2).1]; exact S3.out.2.2⟩
  clear hb c3 S3 p0 p1 p2
  have p0 : W4.cell? ⟨w.heap.size, 0, none⟩ = some (.iface 256 (.pointer (some (ad 58)))) := by rw [cell_of_row _ _ _ _ _ _ S4.out.2.2]; rfl
  have p1 : W4.cell? ⟨w.heap.size, 1, none⟩ = some (.int .i64 num) := by rw [cell_of_row _ _ _ _ _ _ S4.out.2.2]; rfl
  have p2 : W4.cell? ⟨4, 0, none⟩ = some (.iface 256 (.pointer (some (ad 54)))) := (S4.out.1.1 (54, 4) (by decide)).1
  have c4 : Hid (Calls Tryz.prog 38 #[.iface 69 (.agg #[.iface 256 (.pointer (some (ad 58))), .int .i64 num]), .iface 256 (.pointer (some (ad 54)))] W4 fun e w' => e = .returned (.bool false) ∧ Below W4.heap.size W4 w') := is_any S4.out.1 (58, 8) (54, 4) (by decide) (by decide) num
  go_wp2_with fail
  refine c4.out.mono ?_
  rintro e W5 ⟨rfl, hb⟩
  have S5 : Hid (Sen ad W5 ∧ Below w.heap.size w W5 ∧ W5.heap[w.heap.size]? = some (.cells #[.iface 256 (.pointer (some (ad 58))), .int .i64 num] 69 (0, 0))) := ⟨S4.out.1.below hb, S4.out.2.1.trans (hb.mono S4.out.2.1.size), by rw [hb.block _ (Array.getElem?_eq_some_iff.1 S4.out.2.2).1]; exact S4.out.2.2⟩
  clear hb c4 S4 p0 p1 p2
  have p0 : W5.cell? ⟨w.heap.size, 0, none⟩ = some (.iface 256 (.pointer (some (ad 58)))) := by rw [cell_of_row _ _ _ _ _ _ S5.out.2.2]; rfl
  have p1 : W5.cell? ⟨w.heap.size, 1, none⟩ = some (.int .i64 num) := by rw [cell_of_row _ _ _ _ _ _ S5.out.2.2]; rfl
  have p2 : W5.cell? ⟨5, 0, none⟩ = some (.iface 256 (.pointer (some (ad 55)))) := (S5.out.1.1 (55, 5) (by decide)).1
  have c5 : Hid (Calls Tryz.prog 38 #[.iface 69 (.agg #[.iface 256 (.pointer (some (ad 58))), .int .i64 num]), .iface 256 (.pointer (some (ad 55)))] W5 fun e w' => e = .returned (.bool false) ∧ Below W5.heap.size W5 w') := is_any S5.out.1 (58, 8) (55, 5) (by decide) (by decide) num
  go_wp2_with fail
  refine c5.out.mono ?_
  rintro e W6 ⟨rfl, hb⟩
  have S6 : Hid (Sen ad W6 ∧ Below w.heap.size w W6 ∧ W6.heap[w.heap.size]? = some (.cells #[.iface 256 (.pointer (some (ad 58))), .int .i64 num] 69 (0, 0))) := ⟨S5.out.1.below hb, S5.out.2.1.trans (hb.mono S5.out.2.1.size), by rw [hb.block _ (Array.getElem?_eq_some_iff.1 S5.out.2.2).1]; exact S5.out.2.2⟩
  clear hb c5 S5 p0 p1 p2
  have p0 : W6.cell? ⟨w.heap.size, 0, none⟩ = some (.iface 256 (.pointer (some (ad 58)))) := by rw [cell_of_row _ _ _ _ _ _ S6.out.2.2]; rfl
  have p1 : W6.cell? ⟨w.heap.size, 1, none⟩ = some (.int .i64 num) := by rw [cell_of_row _ _ _ _ _ _ S6.out.2.2]; rfl
  have p2 : W6.cell? ⟨6, 0, none⟩ = some (.iface 256 (.pointer (some (ad 56)))) := (S6.out.1.1 (56, 6) (by decide)).1
  have c6 : Hid (Calls Tryz.prog 38 #[.iface 69 (.agg #[.iface 256 (.pointer (some (ad 58))), .int .i64 num]), .iface 256 (.pointer (some (ad 56)))] W6 fun e w' => e = .returned (.bool false) ∧ Below W6.heap.size W6 w') := is_any S6.out.1 (58, 8) (56, 6) (by decide) (by decide) num
  go_wp2_with fail
  refine c6.out.mono ?_
  rintro e W7 ⟨rfl, hb⟩
  have S7 : Hid (Sen ad W7 ∧ Below w.heap.size w W7 ∧ W7.heap[w.heap.size]? = some (.cells #[.iface 256 (.pointer (some (ad 58))), .int .i64 num] 69 (0, 0))) := ⟨S6.out.1.below hb, S6.out.2.1.trans (hb.mono S6.out.2.1.size), by rw [hb.block _ (Array.getElem?_eq_some_iff.1 S6.out.2.2).1]; exact S6.out.2.2⟩
  clear hb c6 S6 p0 p1 p2
  have p0 : W7.cell? ⟨w.heap.size, 0, none⟩ = some (.iface 256 (.pointer (some (ad 58)))) := by rw [cell_of_row _ _ _ _ _ _ S7.out.2.2]; rfl
  have p1 : W7.cell? ⟨w.heap.size, 1, none⟩ = some (.int .i64 num) := by rw [cell_of_row _ _ _ _ _ _ S7.out.2.2]; rfl
  have p2 : W7.cell? ⟨7, 0, none⟩ = some (.iface 256 (.pointer (some (ad 57)))) := (S7.out.1.1 (57, 7) (by decide)).1
  have c7 : Hid (Calls Tryz.prog 38 #[.iface 69 (.agg #[.iface 256 (.pointer (some (ad 58))), .int .i64 num]), .iface 256 (.pointer (some (ad 57)))] W7 fun e w' => e = .returned (.bool false) ∧ Below W7.heap.size W7 w') := is_any S7.out.1 (58, 8) (57, 7) (by decide) (by decide) num
  go_wp2_with fail
  refine c7.out.mono ?_
  rintro e W8 ⟨rfl, hb⟩
  have S8 : Hid (Sen ad W8 ∧ Below w.heap.size w W8 ∧ W8.heap[w.heap.size]? = some (.cells #[.iface 256 (.pointer (some (ad 58))), .int .i64 num] 69 (0, 0))) := ⟨S7.out.1.below hb, S7.out.2.1.trans (hb.mono S7.out.2.1.size), by rw [hb.block _ (Array.getElem?_eq_some_iff.1 S7.out.2.2).1]; exact S7.out.2.2⟩
  clear hb c7 S7 p0 p1 p2
  have p0 : W8.cell? ⟨w.heap.size, 0, none⟩ = some (.iface 256 (.pointer (some (ad 58)))) := by rw [cell_of_row _ _ _ _ _ _ S8.out.2.2]; rfl
  have p1 : W8.cell? ⟨w.heap.size, 1, none⟩ = some (.int .i64 num) := by rw [cell_of_row _ _ _ _ _ _ S8.out.2.2]; rfl
  have p2 : W8.cell? ⟨8, 0, none⟩ = some (.iface 256 (.pointer (some (ad 58)))) := (S8.out.1.1 (58, 8) (by decide)).1
  have c8 : Hid (Calls Tryz.prog 38 #[.iface 69 (.agg #[.iface 256 (.pointer (some (ad 58))), .int .i64 num]), .iface 256 (.pointer (some (ad 58)))] W8 fun e w' => e = .returned (.bool true) ∧ Below W8.heap.size W8 w') := is_any S8.out.1 (58, 8) (58, 8) (by decide) (by decide) num
  go_wp2_with fail
  refine c8.out.mono ?_
  rintro e W9 ⟨rfl, hb⟩
  have hfin : Hid (Below w.heap.size w W9) := S8.out.2.1.trans (hb.mono S8.out.2.1.size)
  clear hb c8 S8
  go_wp2_with fail
  go_ret
  exact ⟨rfl, hfin.out⟩
set_option maxHeartbeats 4000000 in
theorem number_59 (ad : Nat → Addr) (num : Int) (w : World) (h : Sen ad w) :
    Calls Tryz.prog 50 #[.agg #[.iface 256 (.pointer (some (ad 59))), .int .i64 num]] w fun e w' => e = .returned (.int .i64 59) ∧ Below w.heap.size w w' := by
  obtain ⟨W0, hW0⟩ : ∃ W0, w.alloc (.cells #[.iface 256 (.pointer (some (ad 59))), .int .i64 num] 69) = W0 := ⟨_, rfl⟩
  have b0 : Below w.heap.size w W0 := by rw [← hW0]; exact (Below.refl _ _).alloc (Nat.le_refl _) _
  have x0 : W0.heap[w.heap.size]? = some (.cells #[.iface 256 (.pointer (some (ad 59))), .int .i64 num] 69 (0, 0)) := by rw [← hW0]; exact heap_alloc_new _ _
  have S0 : Hid (Sen ad W0 ∧ Below w.heap.size w W0 ∧ W0.heap[w.heap.size]? = some (.cells #[.iface 256 (.pointer (some (ad 59))), .int .i64 num] 69 (0, 0))) := ⟨h.below b0, b0, x0⟩
  have p0 : W0.cell? ⟨w.heap.size, 0, none⟩ = some (.iface 256 (.pointer (some (ad 59)))) := by rw [cell_of_row _ _ _ _ _ _ x0]; rfl
  have p1 : W0.cell? ⟨w.heap.size, 1, none⟩ = some (.int .i64 num) := by rw [cell_of_row _ _ _ _ _ _ x0]; rfl
  have p2 : W0.cell? ⟨0, 0, none⟩ = some (.iface 256 (.pointer (some (ad 50)))) := (S0.out.1.1 (50, 0) (by decide)).1
  clear b0 x0 h
  go_enter Tryz.func50, Tryz.ntmps50
  have c0 : Hid (Calls Tryz.prog 38 #[.iface 69 (.agg #[.iface 256 (.pointer (some (ad 59))), .int .i64 num]), .iface 256 (.pointer (some (ad 50)))] W0 fun e w' => e = .returned (.bool false) ∧ Below W0.heap.size W0 w') := is_any S0.out.1 (59, 9) (50, 0) (by decide) (by decide) num
  go_wp2_with fail
  refine c0.out.mono ?_
  rintro e W1 ⟨rfl, hb⟩
  have S1 : Hid (Sen ad W1 ∧ Below w.heap.size w W1 ∧ W1.heap[w.heap.size]? = some (.cells #[.iface 256 (.pointer (some (ad 59))), .int .i64 num] 69 (0, 0))) := ⟨S0.out.1.below hb, S0.out.2.1.trans (hb.mono S0.out.2.1.size), by rw [hb.block _ (Array.getElem?_eq_some_iff.1 S0.out.2.2).1]; exact S0.out.2.2⟩
  clear hb c0 S0 p0 p1 p2
  have p0 : W1.cell? ⟨w.heap.size, 0, none⟩ = some (.iface 256 (.pointer (some (ad 59)))) := by rw [cell_of_row _ _ _ _ _ _ S1.out.2.2]; rfl
  have p1 : W1.cell? ⟨w.heap.size, 1, none⟩ = some (.int .i64 num) := by rw [cell_of_row _ _ _ _ _ _ S1.out.2.2]; rfl
  have p2 : W1.cell? ⟨1, 0, none⟩ = some (.iface 256 (.pointer (some (ad 51)))) := (S1.out.1.1 (51, 1) (by decide)).1
  have c1 : Hid (Calls Tryz.prog 38 #[.iface 69 (.agg #[.iface 256 (.pointer (some (ad 59))), .int .i64 num]), .iface 256 (.pointer (some (ad 51)))] W1 fun e w' => e = .returned (.bool false) ∧ Below W1.heap.size W1 w') := is_any S1.out.1 (59, 9) (51, 1) (by decide) (by decide) num
  go_wp2_with fail
  refine c1.out.mono ?_
  rintro e W2 ⟨rfl, hb⟩
  have S2 : Hid (Sen ad W2 ∧ Below w.heap.size w W2 ∧ W2.heap[w.heap.size]? = some (.cells #[.iface 256 (.pointer (some (ad 59))), .int .i64 num] 69 (0, 0))) := ⟨S1.out.1.below hb, S1.out.2.1.trans (hb.mono S1.out.2.1.size), by rw [hb.block _ (Array.getElem?_eq_some_iff.1 S1.out.2.2).1]; exact S1.out.2.2⟩
  clear hb c1 S1 p0 p1 p2
  have p0 : W2.cell? ⟨w.heap.size, 0, none⟩ = some (.iface 256 (.pointer (some (ad 59)))) := by rw [cell_of_row _ _ _ _ _ _ S2.out.2.2]; rfl
  have p1 : W2.cell? ⟨w.heap.size, 1, none⟩ = some (.int .i64 num) := by rw [cell_of_row _ _ _ _ _ _ S2.out.2.2]; rfl
  have p2 : W2.cell? ⟨2, 0, none⟩ = some (.iface 256 (.pointer (some (ad 52)))) := (S2.out.1.1 (52, 2) (by decide)).1
  have c2 : Hid (Calls Tryz.prog 38 #[.iface 69 (.agg #[.iface 256 (.pointer (some (ad 59))), .int .i64 num]), .iface 256 (.pointer (some (ad 52)))] W2 fun e w' => e = .returned (.bool false) ∧ Below W2.heap.size W2 w') := is_any S2.out.1 (59, 9) (52, 2) (by decide) (by decide) num
  go_wp2_with fail
  refine c2.out.mono ?_
  rintro e W3 ⟨rfl, hb⟩
  have S3 : Hid (Sen ad W3 ∧ Below w.heap.size w W3 ∧ W3.heap[w.heap.size]? = some (.cells #[.iface 256 (.pointer (some (ad 59))), .int .i64 num] 69 (0, 0))) := ⟨S2.out.1.below hb, S2.out.2.1.trans (hb.mono S2.out.2.1.size), by rw [hb.block _ (Array.getElem?_eq_some_iff.1 S2.out.2.2).1]; exact S2.out.2.2⟩
  clear hb c2 S2 p0 p1 p2
  have p0 : W3.cell? ⟨w.heap.size, 0, none⟩ = some (.iface 256 (.pointer (some (ad 59)))) := by rw [cell_of_row _ _ _ _ _ _ S3.out.2.2]; rfl
  have p1 : W3.cell? ⟨w.heap.size, 1, none⟩ = some (.int .i64 num) := by rw [cell_of_row _ _ _ _ _ _ S3.out.2.2]; rfl
  have p2 : W3.cell? ⟨3, 0, none⟩ = some (.iface 256 (.pointer (some (ad 53)))) := (S3.out.1.1 (53, 3) (by decide)).1
  have c3 : Hid (Calls Tryz.prog 38 #[.iface 69 (.agg #[.iface 256 (.pointer (some (ad 59))), .int .i64 num]), .iface 256 (.pointer (some (ad 53)))] W3 fun e w' => e = .returned (.bool false) ∧ Below W3.heap.size W3 w') := is_any S3.out.1 (59, 9) (53, 3) (by decide) (by decide) num
  go_wp2_with fail
  refine c3.out.mono ?_
  rintro e W4 ⟨rfl, hb⟩
  have S4 : Hid (Sen ad W4 ∧ Below w.heap.size w W4 ∧ W4.heap[w.heap.size]? = some (.cells #[.iface 256 (.pointer (some (ad 59))), .int .i64 num] 69 (0, 0))) := ⟨S3.out.1.below hb, S3.out.2.1.trans (hb.mono S3.out.2.1.size), by rw [hb.block _ (Array.getElem?_eq_some_iff.1 S3.out.2.2).1]; exact S3.out.2.2⟩
  clear hb c3 S3 p0 p1 p2
  have p0 : W4.cell? ⟨w.heap.size, 0, none⟩ = some (.iface 256 (.pointer (some (ad 59)))) := by rw [cell_of_row _ _ _ _ _ _ S4.out.2.2]; rfl
  have p1 : W4.cell? ⟨w.heap.size, 1, none⟩ = some (.int .i64 num) := by rw [cell_of_row _ _ _ _ _ _ S4.out.2.2]; rfl
  have p2 : W4.cell? ⟨4, 0, none⟩ = some (.iface 256 (.pointer (some (ad 54)))) := (S4.out.1.1 (54, 4) (by decide)).1
  have c4 : Hid (Calls Tryz.prog 38 #[.iface 69 (.agg #[.iface 256 (.pointer (some (ad 59))), .int .i64 num]), .iface 256 (.pointer (some (ad 54)))] W4 fun e w' => e = .returned (.bool false) ∧ Below W4.heap.size W4 w') := is_any S4.out.1 (59, 9) (54, 4) (by decide) (by decide) num
  go_wp2_with fail
  refine c4.out.mono ?_
  rintro e W5 ⟨rfl, hb⟩
  have S5 : Hid (Sen ad W5 ∧ Below w.heap.size w W5 ∧ W5.heap[w.heap.size]? = some (.cells #[.iface 256 (.pointer (some (ad 59))), .int .i64 num] 69 (0, 0))) := ⟨S4.out.1.below hb, S4.out.2.1.trans (hb.mono S4.out.2.1.size), by rw [hb.block _ (Array.getElem?_eq_some_iff.1 S4.out.2.2).1]; exact S4.out.2.2⟩
  clear hb c4 S4 p0 p1 p2
  have p0 : W5.cell? ⟨w.heap.size, 0, none⟩ = some (.iface 256 (.pointer (some (ad 59)))) := by rw [cell_of_row _ _ _ _ _ _ S5.out.2.2]; rfl
  have p1 : W5.cell? ⟨w.heap.size, 1, none⟩ = some (.int .i64 num) := by rw [cell_of_row _ _ _ _ _ _ S5.out.2.2]; rfl
  have p2 : W5.cell? ⟨5, 0, none⟩ = some (.iface 256 (.pointer (some (ad 55)))) := (S5.out.1.1 (55, 5) (by decide)).1
  have c5 : Hid (Calls Tryz.prog 38 #[.iface 69 (.agg #[.iface 256 (.pointer (some (ad 59))), .int .i64 num]), .iface 256 (.pointer (some (ad 55)))] W5 fun e w' => e = .returned (.bool false) ∧ Below W5.heap.size W5 w') := is_any S5.out.1 (59, 9) (55, 5) (by decide) (by decide) num
  go_wp2_with fail
  refine c5.out.mono ?_
  rintro e W6 ⟨rfl, hb⟩
  have S6 : Hid (Sen ad W6 ∧ Below w.heap.size w W6 ∧ W6.heap[w.heap.size]? = some (.cells #[.iface 256 (.pointer (some (ad 59))), .int .i64 num] 69 (0, 0))) := ⟨S5.out.1.below hb, S5.out.2.1.trans (hb.mono S5.out.2.1.size), by rw [hb.block _ (Array.getElem?_eq_some_iff.1 S5.out.2.2).1]; exact S5.out.2.2⟩
  clear hb c5 S5 p0 p1 p2
  have p0 : W6.cell? ⟨w.heap.size, 0, none⟩ = some (.iface 256 (.pointer (some (ad 59)))) := by rw [cell_of_row _ _ _ _ _ _ S6.out.2.2]; rfl
  have p1 : W6.cell? ⟨w.heap.size, 1, none⟩ = some (.int .i64 num) := by rw [cell_of_row _ _ _ _ _ _ S6.out.2.2]; rfl
  have p2 : W6.cell? ⟨6, 0, none⟩ = some (.iface 256 (.pointer (some (ad 56)))) := (S6.out.1.1 (56, 6) (by decide)).1
  have c6 : Hid (Calls Tryz.prog 38 #[.iface 69 (.agg #[.iface 256 (.pointer (some (ad 59))), .int .i64 num]), .iface 256 (.pointer (some (ad 56)))] W6 fun e w' => e = .returned (.bool false) ∧ Below W6.heap.size W6 w') := is_any S6.out.1 (59, 9) (56, 6) (by decide) (by decide) num
  go_wp2_with fail
  refine c6.out.mono ?_
  rintro e W7 ⟨rfl, hb⟩
  have S7 : Hid (Sen ad W7 ∧ Below w.heap.size w W7 ∧ W7.heap[w.heap.size]? = some (.cells #[.iface 256 (.pointer (some (ad 59))), .int .i64 num] 69 (0, 0))) := ⟨S6.out.1.below hb, S6.out.2.1.trans (hb.mono S6.out.2.1.size), by rw [hb.block _ (Array.getElem?_eq_some_iff.1 S6.out.2.2).1]; exact S6.out.2.2⟩
  clear hb c6 S6 p0 p1 p2
  have p0 : W7.cell? ⟨w.heap.size, 0, none⟩ = some (.iface 256 (.pointer (some (ad 59)))) := by rw [cell_of_row _ _ _ _ _ _ S7.out.2.2]; rfl
  have p1 : W7.cell? ⟨w.heap.size, 1, none⟩ = some (.int .i64 num) := by rw [cell_of_row _ _ _ _ _ _ S7.out.2.2]; rfl
  have p2 : W7.cell? ⟨7, 0, none⟩ = some (.iface 256 (.pointer (some (ad 57)))) := (S7.out.1.1 (57, 7) (by decide)).1
  have c7 : Hid (Calls Tryz.prog 38 #[.iface 69 (.agg #[.iface 256 (.pointer (some (ad 59))), .int .i64 num]), .iface 256 (.pointer (some (ad 57)))] W7 fun e w' => e = .returned (.bool false) ∧ Below W7.heap.size W7 w') := is_any S7.out.1 (59, 9) (57, 7) (by decide) (by decide) num
  go_wp2_with fail
  refine c7.out.mono ?_
  rintro e W8 ⟨rfl, hb⟩
  have S8 : Hid (Sen ad W8 ∧ Below w.heap.size w W8 ∧ W8.heap[w.heap.size]? = some (.cells #[.iface 256 (.pointer (some (ad 59))), .int .i64 num] 69 (0, 0))) := ⟨S7.out.1.below hb, S7.out.2.1.trans (hb.mono S7.out.2.1.size), by rw [hb.block _ (Array.getElem?_eq_some_iff.1 S7.out.2.2).1]; exact S7.out.2.2⟩
  clear hb c7 S7 p0 p1 p2
  have p0 : W8.cell? ⟨w.heap.size, 0, none⟩ = some (.iface 256 (.pointer (some (ad 59)))) := by rw [cell_of_row _ _ _ _ _ _ S8.out.2.2]; rfl
  have p1 : W8.cell? ⟨w.heap.size, 1, none⟩ = some (.int .i64 num) := by rw [cell_of_row _ _ _ _ _ _ S8.out.2.2]; rfl
  have p2 : W8.cell? ⟨8, 0, none⟩ = some (.iface 256 (.pointer (some (ad 58)))) := (S8.out.1.1 (58, 8) (by decide)).1
  have c8 : Hid (Calls Tryz.prog 38 #[.iface 69 (.agg #[.iface 256 (.pointer (some (ad 59))), .int .i64 num]), .iface 256 (.pointer (some (ad 58)))] W8 fun e w' => e = .returned (.bool false) ∧ Below W8.heap.size W8 w') := is_any S8.out.1 (59, 9) (58, 8) (by decide) (by decide) num
  go_wp2_with fail
  refine c8.out.mono ?_
  rintro e W9 ⟨rfl, hb⟩
  have S9 : Hid (Sen ad W9 ∧ Below w.heap.size w W9 ∧ W9.heap[w.heap.size]? = some (.cells #[.iface 256 (.pointer (some (ad 59))), .int .i64 num] 69 (0, 0))) := ⟨S8.out.1.below hb, S8.out.2.1.trans (hb.mono S8.out.2.1.size), by rw [hb.block _ (Array.getElem?_eq_some_iff.1 S8.out.2.2).1]; exact S8.out.2.2⟩
  clear hb c8 S8 p0 p1 p2
  have p0 : W9.cell? ⟨w.heap.size, 0, none⟩ = some (.iface 256 (.pointer (some (ad 59)))) := by rw [cell_of_row _ _ _ _ _ _ S9.out.2.2]; rfl
  have p1 : W9.cell? ⟨w.heap.size, 1, none⟩ = some (.int .i64 num) := by rw [cell_of_row _ _ _ _ _ _ S9.out.2.2]; rfl
  have p2 : W9.cell? ⟨9, 0, none⟩ = some (.iface 256 (.pointer (some (ad 59)))) := (S9.out.1.1 (59, 9) (by decide)).1
  have c9 : Hid (Calls Tryz.prog 38 #[.iface 69 (.agg #[.iface 256 (.pointer (some (ad 59))), .int .i64 num]), .iface 256 (.pointer (some (ad 59)))] W9 fun e w' => e = .returned (.bool true) ∧ Below W9.heap.size W9 w') := is_any S9.out.1 (59, 9) (59, 9) (by decide) (by decide) num
  go_wp2_with fail
  refine c9.out.mono ?_
  rintro e W10 ⟨rfl, hb⟩
  have hfin : Hid (Below w.heap.size w W10) := S9.out.2.1.trans (hb.mono S9.out.2.1.size)
  clear hb c9 S9
  go_wp2_with fail
  go_ret
  exact ⟨rfl, hfin.out⟩
theorem fault_nil (w : World) : Calls Tryz.prog 25 #[.nilIface] w fun e w' => e = .returned (.tuple #[.int .i64 0, .int .i64 0]) ∧ w' = w := by
  go_enter Tryz.func25, Tryz.ntmps25
  go_wp2_with fail
  go_ret2
  exact ⟨rfl, rfl⟩
end Ke
end Go.Proofs.YtkknenmpdimdbaaGreatDoor
