import Derived.Test.YtkknenmpdimdbaaGreatDoorKfN
namespace Go.Proofs.YtkknenmpdimdbaaGreatDoor
namespace Ke
open Go.RowKit
set_option linter.unusedVariables false
set_option linter.unusedSimpArgs false
set_option maxRecDepth 100000

set_option maxHeartbeats 4000000 in
theorem number_52 (ad : Nat → Addr) (num : Int) (w : World) (h : Sen ad w) :
    Calls Tryz.prog 50 #[.agg #[.iface 256 (.pointer (some (ad 52))), .int .i64 num]] w fun e w' => e = .returned (.int .i64 52) ∧ Below w.heap.size w w' := by
  obtain ⟨W0, hW0⟩ : ∃ W0, w.alloc (.cells #[.iface 256 (.pointer (some (ad 52))), .int .i64 num] 69) = W0 := ⟨_, rfl⟩
  have b0 : Below w.heap.size w W0 := by rw [← hW0]; exact (Below.refl _ _).alloc (Nat.le_refl _) _
  have x0 : W0.heap[w.heap.size]? = some (.cells #[.iface 256 (.pointer (some (ad 52))), .int .i64 num] 69 (0, 0)) := by rw [← hW0]; exact heap_alloc_new _ _
  have S0 : Hid (Sen ad W0 ∧ Below w.heap.size w W0 ∧ W0.heap[w.heap.size]? = some (.cells #[.iface 256 (.pointer (some (ad 52))), .int .i64 num] 69 (0, 0))) := ⟨h.below b0, b0, x0⟩
  have p0 : W0.cell? ⟨w.heap.size, 0, none⟩ = some (.iface 256 (.pointer (some (ad 52)))) := by rw [cell_of_row _ _ _ _ _ _ x0]; rfl
  have p1 : W0.cell? ⟨w.heap.size, 1, none⟩ = some (.int .i64 num) := by rw [cell_of_row _ _ _ _ _ _ x0]; rfl
  have p2 : W0.cell? ⟨0, 0, none⟩ = some (.iface 256 (.pointer (some (ad 50)))) := (S0.out.1.1 (50, 0) (by decide)).1
  clear b0 x0 h
  go_enter Tryz.func50, Tryz.ntmps50
  have c0 : Hid (Calls Tryz.prog 38 #[.iface 69 (.agg #[.iface 256 (.pointer (some (ad 52))), .int .i64 num]), .iface 256 (.pointer (some (ad 50)))] W0 fun e w' => e = .returned (.bool false) ∧ Below W0.heap.size W0 w') := is_any S0.out.1 (52, 2) (50, 0) (by decide) (by decide) num
  go_wp2_with fail
  refine c0.out.mono ?_
  rintro e W1 ⟨rfl, hb⟩
  have S1 : Hid (Sen ad W1 ∧ Below w.heap.size w W1 ∧ W1.heap[w.heap.size]? = some (.cells #[.iface 256 (.pointer (some (ad 52))), .int .i64 num] 69 (0, 0))) := ⟨S0.out.1.below hb, S0.out.2.1.trans (hb.mono S0.out.2.1.size), by rw [hb.block _ (Array.getElem?_eq_some_iff.1 S0.out.2.2).1]; exact S0.out.2.2⟩
  clear hb c0 S0 p0 p1 p2
  have p0 : W1.cell? ⟨w.heap.size, 0, none⟩ = some (.iface 256 (.pointer (some (ad 52)))) := by rw [cell_of_row _ _ _ _ _ _ S1.out.2.2]; rfl
  have p1 : W1.cell? ⟨w.heap.size, 1, none⟩ = some (.int .i64 num) := by rw [cell_of_row _ _ _ _ _ _ S1.out.2.2]; rfl
  have p2 : W1.cell? ⟨1, 0, none⟩ = some (.iface 256 (.pointer (some (ad 51)))) := (S1.out.1.1 (51, 1) (by decide)).1
  have c1 : Hid (Calls Tryz.prog 38 #[.iface 69 (.agg #[.iface 256 (.pointer (some (ad 52))), .int .i64 num]), .iface 256 (.pointer (some (ad 51)))] W1 fun e w' => e = .returned (.bool false) ∧ Below W1.heap.size W1 w') := is_any S1.out.1 (52, 2) (51, 1) (by decide) (by decide) num
  go_wp2_with fail
  refine c1.out.mono ?_
  rintro e W2 ⟨rfl, hb⟩
  have S2 : Hid (Sen ad W2 ∧ Below w.heap.size w W2 ∧ W2.heap[w.heap.size]? = some (.cells #[.iface 256 (.pointer (some (ad 52))), .int .i64 num] 69 (0, 0))) := ⟨S1.out.1.below hb, S1.out.2.1.trans (hb.mono S1.out.2.1.size), by rw [hb.block _ (Array.getElem?_eq_some_iff.1 S1.out.2.2).1]; exact S1.out.2.2⟩
  clear hb c1 S1 p0 p1 p2
  have p0 : W2.cell? ⟨w.heap.size, 0, none⟩ = some (.iface 256 (.pointer (some (ad 52)))) := by rw [cell_of_row _ _ _ _ _ _ S2.out.2.2]; rfl
  have p1 : W2.cell? ⟨w.heap.size, 1, none⟩ = some (.int .i64 num) := by rw [cell_of_row _ _ _ _ _ _ S2.out.2.2]; rfl
  have p2 : W2.cell? ⟨2, 0, none⟩ = some (.iface 256 (.pointer (some (ad 52)))) := (S2.out.1.1 (52, 2) (by decide)).1
  have c2 : Hid (Calls Tryz.prog 38 #[.iface 69 (.agg #[.iface 256 (.pointer (some (ad 52))), .int .i64 num]), .iface 256 (.pointer (some (ad 52)))] W2 fun e w' => e = .returned (.bool true) ∧ Below W2.heap.size W2 w') := is_any S2.out.1 (52, 2) (52, 2) (by decide) (by decide) num
  go_wp2_with fail
  refine c2.out.mono ?_
  rintro e W3 ⟨rfl, hb⟩
  have hfin : Hid (Below w.heap.size w W3) := S2.out.2.1.trans (hb.mono S2.out.2.1.size)
  clear hb c2 S2
  go_wp2_with fail
  go_ret
  exact ⟨rfl, hfin.out⟩
set_option maxHeartbeats 4000000 in
theorem number_53 (ad : Nat → Addr) (num : Int) (w : World) (h : Sen ad w) :
    Calls Tryz.prog 50 #[.agg #[.iface 256 (.pointer (some (ad 53))), .int .i64 num]] w fun e w' => e = .returned (.int .i64 53) ∧ Below w.heap.size w w' := by
  obtain ⟨W0, hW0⟩ : ∃ W0, w.alloc (.cells #[.iface 256 (.pointer (some (ad 53))), .int .i64 num] 69) = W0 := ⟨_, rfl⟩
  have b0 : Below w.heap.size w W0 := by rw [← hW0]; exact (Below.refl _ _).alloc (Nat.le_refl _) _
  have x0 : W0.heap[w.heap.size]? = some (.cells #[.iface 256 (.pointer (some (ad 53))), .int .i64 num] 69 (0, 0)) := by rw [← hW0]; exact heap_alloc_new _ _
  have S0 : Hid (Sen ad W0 ∧ Below w.heap.size w W0 ∧ W0.heap[w.heap.size]? = some (.cells #[.iface 256 (.pointer (some (ad 53))), .int .i64 num] 69 (0, 0))) := ⟨h.below b0, b0, x0⟩
  have p0 : W0.cell? ⟨w.heap.size, 0, none⟩ = some (.iface 256 (.pointer (some (ad 53)))) := by rw [cell_of_row _ _ _ _ _ _ x0]; rfl
  have p1 : W0.cell? ⟨w.heap.size, 1, none⟩ = some (.int .i64 num) := by rw [cell_of_row _ _ _ _ _ _ x0]; rfl
  have p2 : W0.cell? ⟨0, 0, none⟩ = some (.iface 256 (.pointer (some (ad 50)))) := (S0.out.1.1 (50, 0) (by decide)).1
  clear b0 x0 h
  go_enter Tryz.func50, Tryz.ntmps50
  have c0 : Hid (Calls Tryz.prog 38 #[.iface 69 (.agg #[.iface 256 (.pointer (some (ad 53))), .int .i64 num]), .iface 256 (.pointer (some (ad 50)))] W0 fun e w' => e = .returned (.bool false) ∧ Below W0.heap.size W0 w') := is_any S0.out.1 (53, 3) (50, 0) (by decide) (by decide) num
  go_wp2_with fail
  refine c0.out.mono ?_
  rintro e W1 ⟨rfl, hb⟩
  have S1 : Hid (Sen ad W1 ∧ Below w.heap.size w W1 ∧ W1.heap[w.heap.size]? = some (.cells #[.iface 256 (.pointer (some (ad 53))), .int .i64 num] 69 (0, 0))) := ⟨S0.out.1.below hb, S0.out.2.1.trans (hb.mono S0.out.2.1.size), by rw [hb.block _ (Array.getElem?_eq_some_iff.1 S0.out.2.2).1]; exact S0.out.2.2⟩
  clear hb c0 S0 p0 p1 p2
  have p0 : W1.cell? ⟨w.heap.size, 0, none⟩ = some (.iface 256 (.pointer (some (ad 53)))) := by rw [cell_of_row _ _ _ _ _ _ S1.out.2.2]; rfl
  have p1 : W1.cell? ⟨w.heap.size, 1, none⟩ = some (.int .i64 num) := by rw [cell_of_row _ _ _ _ _ _ S1.out.2.2]; rfl
  have p2 : W1.cell? ⟨1, 0, none⟩ = some (.iface 256 (.pointer (some (ad 51)))) := (S1.out.1.1 (51, 1) (by decide)).1
  have c1 : Hid (Calls Tryz.prog 38 #[.iface 69 (.agg #[.iface 256 (.pointer (some (ad 53))), .int .i64 num]), .iface 256 (.pointer (some (ad 51)))] W1 fun e w' => e = .returned (.bool false) ∧ Below W1.heap.size W1 w') := is_any S1.out.1 (53, 3) (51, 1) (by decide) (by decide) num
  go_wp2_with fail
  refine c1.out.mono ?_
  rintro e W2 ⟨rfl, hb⟩
  have S2 : Hid (Sen ad W2 ∧ Below w.heap.size w W2 ∧ W2.heap[w.heap.size]? = some (.cells #[.iface 256 (.pointer (some (ad 53))), .int .i64 num] 69 (0, 0))) := ⟨S1.out.1.below hb, S1.out.2.1.trans (hb.mono S1.out.2.1.size), by rw [hb.block _ (Array.getElem?_eq_some_iff.1 S1.out.2.2).1]; exact S1.out.2.2⟩
  clear hb c1 S1 p0 p1 p2
  have p0 : W2.cell? ⟨w.heap.size, 0, none⟩ = some (.iface 256 (.pointer (some (ad 53)))) := by rw [cell_of_row _ _ _ _ _ _ S2.out.2.2]; rfl
  have p1 : W2.cell? ⟨w.heap.size, 1, none⟩ = some (.int .i64 num) := by rw [cell_of_row _ _ _ _ _ _ S2.out.2.2]; rfl
  have p2 : W2.cell? ⟨2, 0, none⟩ = some (.iface 256 (.pointer (some (ad 52)))) := (S2.out.1.1 (52, 2) (by decide)).1
  have c2 : Hid (Calls Tryz.prog 38 #[.iface 69 (.agg #[.iface 256 (.pointer (some (ad 53))), .int .i64 num]), .iface 256 (.pointer (some (ad 52)))] W2 fun e w' => e = .returned (.bool false) ∧ Below W2.heap.size W2 w') := is_any S2.out.1 (53, 3) (52, 2) (by decide) (by decide) num
  go_wp2_with fail
  refine c2.out.mono ?_
  rintro e W3 ⟨rfl, hb⟩
  have S3 : Hid (Sen ad W3 ∧ Below w.heap.size w W3 ∧ W3.heap[w.heap.size]? = some (.cells #[.iface 256 (.pointer (some (ad 53))), .int .i64 num] 69 (0, 0))) := ⟨S2.out.1.below hb, S2.out.2.1.trans (hb.mono S2.out.2.1.size), by rw [hb.block _ (Array.getElem?_eq_some_iff.1 S2.out.2.2).1]; exact S2.out.2.2⟩
  clear hb c2 S2 p0 p1 p2
  have p0 : W3.cell? ⟨w.heap.size, 0, none⟩ = some (.iface 256 (.pointer (some (ad 53)))) := by rw [cell_of_row _ _ _ _ _ _ S3.out.2.2]; rfl
  have p1 : W3.cell? ⟨w.heap.size, 1, none⟩ = some (.int .i64 num) := by rw [cell_of_row _ _ _ _ _ _ S3.out.2.2]; rfl
  have p2 : W3.cell? ⟨3, 0, none⟩ = some (.iface 256 (.pointer (some (ad 53)))) := (S3.out.1.1 (53, 3) (by decide)).1
  have c3 : Hid (Calls Tryz.prog 38 #[.iface 69 (.agg #[.iface 256 (.pointer (some (ad 53))), .int .i64 num]), .iface 256 (.pointer (some (ad 53)))] W3 fun e w' => e = .returned (.bool true) ∧ Below W3.heap.size W3 w') := is_any S3.out.1 (53, 3) (53, 3) (by decide) (by decide) num
  go_wp2_with fail
  refine c3.out.mono ?_
  rintro e W4 ⟨rfl, hb⟩
  have hfin : Hid (Below w.heap.size w W4) := S3.out.2.1.trans (hb.mono S3.out.2.1.size)
  clear hb c3 S3
  go_wp2_with fail
  go_ret
  exact ⟨rfl, hfin.out⟩
set_option maxHeartbeats 4000000 in
theorem number_54 (ad : Nat → Addr) (num : Int) (w : World) (h : Sen ad w) :
    Calls Tryz.prog 50 #[.agg #[.iface 256 (.pointer (some (ad 54))), .int .i64 num]] w fun e w' => e = .returned (.int .i64 54) ∧ Below w.heap.size w w' := by
  obtain ⟨W0, hW0⟩ : ∃ W0, w.alloc (.cells #[.iface 256 (.pointer (some (ad 54))), .int .i64 num] 69) = W0 := ⟨_, rfl⟩
  have b0 : Below w.heap.size w W0 := by rw [← hW0]; exact (Below.refl _ _).alloc (Nat.le_refl _) _
  have x0 : W0.heap[w.heap.size]? = some (.cells #[.iface 256 (.pointer (some (ad 54))), .int .i64 num] 69 (0, 0)) := by rw [← hW0]; exact heap_alloc_new _ _
  have S0 : Hid (Sen ad W0 ∧ Below w.heap.size w W0 ∧ W0.heap[w.heap.size]? = some (.cells #[.iface 256 (.pointer (some (ad 54))), .int .i64 num] 69 (0, 0))) := ⟨h.below b0, b0, x0⟩
  have p0 : W0.cell? ⟨w.heap.size, 0, none⟩ = some (.iface 256 (.pointer (some (ad 54)))) := by rw [cell_of_row _ _ _ _ _ _ x0]; rfl
  have p1 : W0.cell? ⟨w.heap.size, 1, none⟩ = some (.int .i64 num) := by rw [cell_of_row _ _ _ _ _ _ x0]; rfl
  have p2 : W0.cell? ⟨0, 0, none⟩ = some (.iface 256 (.pointer (some (ad 50)))) := (S0.out.1.1 (50, 0) (by decide)).1
  clear b0 x0 h
  go_enter Tryz.func50, Tryz.ntmps50
  have c0 : Hid (Calls Tryz.prog 38 #[.iface 69 (.agg #[.iface 256 (.pointer (some (ad 54))), .int .i64 num]), .iface 256 (.pointer (some (ad 50)))] W0 fun e w' => e = .returned (.bool false) ∧ Below W0.heap.size W0 w') := is_any S0.out.1 (54, 4) (50, 0) (by decide) (by decide) num
  go_wp2_with fail
  refine c0.out.mono ?_
  rintro e W1 ⟨rfl, hb⟩
  have S1 : Hid (Sen ad W1 ∧ Below w.heap.size w W1 ∧ W1.heap[w.heap.size]? = some (.cells #[.iface 256 (.pointer (some (ad 54))), .int .i64 num] 69 (0, 0))) := ⟨S0.out.1.below hb, S0.out.2.1.trans (hb.mono S0.out.2.1.size), by rw [hb.block _ (Array.getElem?_eq_some_iff.1 S0.out.2.2).1]; exact S0.out.2.2⟩
  clear hb c0 S0 p0 p1 p2
  have p0 : W1.cell? ⟨w.heap.size, 0, none⟩ = some (.iface 256 (.pointer (some (ad 54)))) := by rw [cell_of_row _ _ _ _ _ _ S1.out.2.2]; rfl
  have p1 : W1.cell? ⟨w.heap.size, 1, none⟩ = some (.int .i64 num) := by rw [cell_of_row _ _ _ _ _ _ S1.out.2.2]; rfl
  have p2 : W1.cell? ⟨1, 0, none⟩ = some (.iface 256 (.pointer (some (ad 51)))) := (S1.out.1.1 (51, 1) (by decide)).1
  have c1 : Hid (Calls Tryz.prog 38 #[.iface 69 (.agg #[.iface 256 (.pointer (some (ad 54))), .int .i64 num]), .iface 256 (.pointer (some (ad 51)))] W1 fun e w' => e = .returned (.bool false) ∧ Below W1.heap.size W1 w') := is_any S1.out.1 (54, 4) (51, 1) (by decide) (by decide) num
  go_wp2_with fail
  refine c1.out.mono ?_
  rintro e W2 ⟨rfl, hb⟩
  have S2 : Hid (Sen ad W2 ∧ Below w.heap.size w W2 ∧ W2.heap[w.heap.size]? = some (.cells #[.iface 256 (.pointer (some (ad 54))), .int .i64 num] 69 (0, 0))) := ⟨S1.out.1.below hb, S1.out.2.1.trans (hb.mono S1.out.2.1.size), by rw [hb.block _ (Array.getElem?_eq_some_iff.1 S1.out.2.2).1]; exact S1.out.2.2⟩
  clear hb c1 S1 p0 p1 p2
  have p0 : W2.cell? ⟨w.heap.size, 0, none⟩ = some (.iface 256 (.pointer (some (ad 54)))) := by rw [cell_of_row _ _ _ _ _ _ S2.out.2.2]; rfl
  have p1 : W2.cell? ⟨w.heap.size, 1, none⟩ = some (.int .i64 num) := by rw [cell_of_row _ _ _ _ _ _ S2.out.2.2]; rfl
  have p2 : W2.cell? ⟨2, 0, none⟩ = some (.iface 256 (.pointer (some (ad 52)))) := (S2.out.1.1 (52, 2) (by decide)).1
  have c2 : Hid (Calls Tryz.prog 38 #[.iface 69 (.agg #[.iface 256 (.pointer (some (ad 54))), .int .i64 num]), .iface 256 (.pointer (some (ad 52)))] W2 fun e w' => e = .returned (.bool false) ∧ Below W2.heap.size W2 w') := is_any S2.out.1 (54, 4) (52, 2) (by decide) (by decide) num
  go_wp2_with fail
  refine c2.out.mono ?_
  rintro e W3 ⟨rfl, hb⟩
  have S3 : Hid (Sen ad W3 ∧ Below w.heap.size w W3 ∧ W3.heap[w.heap.size]? = some (.cells #[.iface 256 (.pointer (some (ad 54))), .int .i64 num] 69 (0, 0))) := ⟨S2.out.1.below hb, S2.out.2.1.trans (hb.mono S2.out.2.1.size), by rw [hb.block _ (Array.getElem?_eq_some_iff.1 S2.out.2.2).1]; exact S2.out.2.2⟩
  clear hb c2 S2 p0 p1 p2
  have p0 : W3.cell? ⟨w.heap.size, 0, none⟩ = some (.iface 256 (.pointer (some (ad 54)))) := by rw [cell_of_row _ _ _ _ _ _ S3.out.2.2]; rfl
  have p1 : W3.cell? ⟨w.heap.size, 1, none⟩ = some (.int .i64 num) := by rw [cell_of_row _ _ _ _ _ _ S3.out.2.2]; rfl
  have p2 : W3.cell? ⟨3, 0, none⟩ = some (.iface 256 (.pointer (some (ad 53)))) := (S3.out.1.1 (53, 3) (by decide)).1
  have c3 : Hid (Calls Tryz.prog 38 #[.iface 69 (.agg #[.iface 256 (.pointer (some (ad 54))), .int .i64 num]), .iface 256 (.pointer (some (ad 53)))] W3 fun e w' => e = .returned (.bool false) ∧ Below W3.heap.size W3 w') := is_any S3.out.1 (54, 4) (53, 3) (by decide) (by decide) num
  go_wp2_with fail
  refine c3.out.mono ?_
  rintro e W4 ⟨rfl, hb⟩
  have S4 : Hid (Sen ad W4 ∧ Below w.heap.size w W4 ∧ W4.heap[w.heap.size]? = some (.cells #[.iface 256 (.pointer (some (ad 54))), .int .i64 num] 69 (0, 0))) := ⟨S3.out.1.below hb, S3.out.2.1.trans (hb.mono S3.out.2.1.size), by rw [hb.block _ (Array.getElem?_eq_some_iff.1 S3.out.2.2).1]; exact S3.out.2.2⟩
  clear hb c3 S3 p0 p1 p2
  have p0 : W4.cell? ⟨w.heap.size, 0, none⟩ = some (.iface 256 (.pointer (some (ad 54)))) := by rw [cell_of_row _ _ _ _ _ _ S4.out.2.2]; rfl
  have p1 : W4.cell? ⟨w.heap.size, 1, none⟩ = some (.int .i64 num) := by rw [cell_of_row _ _ _ _ _ _ S4.out.2.2]; rfl
  have p2 : W4.cell? ⟨4, 0, none⟩ = some (.iface 256 (.pointer (some (ad 54)))) := (S4.out.1.1 (54, 4) (by decide)).1
  have c4 : Hid (Calls Tryz.prog 38 #[.iface 69 (.agg #[.iface 256 (.pointer (some (ad 54))), .int .i64 num]), .iface 256 (.pointer (some (ad 54)))] W4 fun e w' => e = .returned (.bool true) ∧ Below W4.heap.size W4 w') := is_any S4.out.1 (54, 4) (54, 4) (by decide) (by decide) num
  go_wp2_with fail
  refine c4.out.mono ?_
  rintro e W5 ⟨rfl, hb⟩
  have hfin : Hid (Below w.heap.size w W5) := S4.out.2.1.trans (hb.mono S4.out.2.1.size)
  clear hb c4 S4
  go_wp2_with fail
  go_ret
  exact ⟨rfl, hfin.out⟩
set_option maxHeartbeats 4000000 in
theorem number_55 (ad : Nat → Addr) (num : Int) (w : World) (h : Sen ad w) :
    Calls Tryz.prog 50 #[.agg #[.iface 256 (.pointer (some (ad 55))), .int .i64 num]] w fun e w' => e = .returned (.int .i64 55) ∧ Below w.heap.size w w' := by
  obtain ⟨W0, hW0⟩ : ∃ W0, w.alloc (.cells #[.iface 256 (.pointer (some (ad 55))), .int .i64 num] 69) = W0 := ⟨_, rfl⟩
  have b0 : Below w.heap.size w W0 := by rw [← hW0]; exact (Below.refl _ _).alloc (Nat.le_refl _) _
  have x0 : W0.heap[w.heap.size]? = some (.cells #[.iface 256 (.pointer (some (ad 55))), .int .i64 num] 69 (0, 0)) := by rw [← hW0]; exact heap_alloc_new _ _
  have S0 : Hid (Sen ad W0 ∧ Below w.heap.size w W0 ∧ W0.heap[w.heap.size]? = some (.cells #[.iface 256 (.pointer (some (ad 55))), .int .i64 num] 69 (0, 0))) := ⟨h.below b0, b0, x0⟩
  have p0 : W0.cell? ⟨w.heap.size, 0, none⟩ = some (.iface 256 (.pointer (some (ad 55)))) := by rw [cell_of_row _ _ _ _ _ _ x0]; rfl
  have p1 : W0.cell? ⟨w.heap.size, 1, none⟩ = some (.int .i64 num) := by rw [cell_of_row _ _ _ _ _ _ x0]; rfl
  have p2 : W0.cell? ⟨0, 0, none⟩ = some (.iface 256 (.pointer (some (ad 50)))) := (S0.out.1.1 (50, 0) (by decide)).1
  clear b0 x0 h
  go_enter Tryz.func50, Tryz.ntmps50
  have c0 : Hid (Calls Tryz.prog 38 #[.iface 69 (.agg #[.iface 256 (.pointer (some (ad 55))), .int .i64 num]), .iface 256 (.pointer (some (ad 50)))] W0 fun e w' => e = .returned (.bool false) ∧ Below W0.heap.size W0 w') := is_any S0.out.1 (55, 5) (50, 0) (by decide) (by decide) num
  go_wp2_with fail
  refine c0.out.mono ?_
  rintro e W1 ⟨rfl, hb⟩
  have S1 : Hid (Sen ad W1 ∧ Below w.heap.size w W1 ∧ W1.heap[w.heap.size]? = some (.cells #[.iface 256 (.pointer (some (ad 55))), .int .i64 num] 69 (0, 0))) := ⟨S0.out.1.below hb, S0.out.2.1.trans (hb.mono S0.out.2.1.size), by rw [hb.block _ (Array.getElem?_eq_some_iff.1 S0.out.2.2).1]; exact S0.out.2.2⟩
  clear hb c0 S0 p0 p1 p2
  have p0 : W1.cell? ⟨w.heap.size, 0, none⟩ = some (.iface 256 (.pointer (some (ad 55)))) := by rw [cell_of_row _ _ _ _ _ _ S1.out.2.2]; rfl
  have p1 : W1.cell? ⟨w.heap.size, 1, none⟩ = some (.int .i64 num) := by rw [cell_of_row _ _ _ _ _ _ S1.out.2.2]; rfl
  have p2 : W1.cell? ⟨1, 0, none⟩ = some (.iface 256 (.pointer (some (ad 51)))) := (S1.out.1.1 (51, 1) (by decide)).1
  have c1 : Hid (Calls Tryz.prog 38 #[.iface 69 (.agg #[.iface 256 (.pointer (some (ad 55))), .int .i64 num]), .iface 256 (.pointer (some (ad 51)))] W1 fun e w' => e = .returned (.bool false) ∧ Below W1.heap.size W1 w') := is_any S1.out.1 (55, 5) (51, 1) (by decide) (by decide) num
  go_wp2_with fail
  refine c1.out.mono ?_
  rintro e W2 ⟨rfl, hb⟩
  have S2 : Hid (Sen ad W2 ∧ Below w.heap.size w W2 ∧ W2.heap[w.heap.size]? = some (.cells #[.iface 256 (.pointer (some (ad 55))), .int .i64 num] 69 (0, 0))) := ⟨S1.out.1.below hb, S1.out.2.1.trans (hb.mono S1.out.2.1.size), by rw [hb.block _ (Array.getElem?_eq_some_iff.1 S1.out.2.2).1]; exact S1.out.2.2⟩
  clear hb c1 S1 p0 p1 p2
  have p0 : W2.cell? ⟨w.heap.size, 0, none⟩ = some (.iface 256 (.pointer (some (ad 55)))) := by rw [cell_of_row _ _ _ _ _ _ S2.out.2.2]; rfl
  have p1 : W2.cell? ⟨w.heap.size, 1, none⟩ = some (.int .i64 num) := by rw [cell_of_row _ _ _ _ _ _ S2.out.2.2]; rfl
  have p2 : W2.cell? ⟨2, 0, none⟩ = some (.iface 256 (.pointer (some (ad 52)))) := (S2.out.1.1 (52, 2) (by decide)).1
  have c2 : Hid (Calls Tryz.prog 38 #[.iface 69 (.agg #[.iface 256 (.pointer (some (ad 55))), .int .i64 num]), .iface 256 (.pointer (some (ad 52)))] W2 fun e w' => e = .returned (.bool false) ∧ Below W2.heap.size W2 w') := is_any S2.out.1 (55, 5) (52, 2) (by decide) (by decide) num
  go_wp2_with fail
  refine c2.out.mono ?_
  rintro e W3 ⟨rfl, hb⟩
  have S3 : Hid (Sen ad W3 ∧ Below w.heap.size w W3 ∧ W3.heap[w.heap.size]? = some (.cells #[.iface 256 (.pointer (some (ad 55))), .int .i64 num] 69 (0, 0))) := ⟨S2.out.1.below hb, S2.out.2.1.trans (hb.mono S2.out.2.1.size), by rw [hb.block _ (Array.getElem?_eq_some_iff.1 S2.out.2.2).1]; exact S2.out.2.2⟩
  clear hb c2 S2 p0 p1 p2
  have p0 : W3.cell? ⟨w.heap.size, 0, none⟩ = some (.iface 256 (.pointer (some (ad 55)))) := by rw [cell_of_row _ _ _ _ _ _ S3.out.2.2]; rfl
  have p1 : W3.cell? ⟨w.heap.size, 1, none⟩ = some (.int .i64 num) := by rw [cell_of_row _ _ _ _ _ _ S3.out.2.2]; rfl
  have p2 : W3.cell? ⟨3, 0, none⟩ = some (.iface 256 (.pointer (some (ad 53)))) := (S3.out.1.1 (53, 3) (by decide)).1
  have c3 : Hid (Calls Tryz.prog 38 #[.iface 69 (.agg #[.iface 256 (.pointer (some (ad 55))), .int .i64 num]), .iface 256 (.pointer (some (ad 53)))] W3 fun e w' => e = .returned (.bool false) ∧ Below W3.heap.size W3 w') := is_any S3.out.1 (55, 5) (53, 3) (by decide) (by decide) num
  go_wp2_with fail
  refine c3.out.mono ?_
  rintro e W4 ⟨rfl, hb⟩
  have S4 : Hid (Sen ad W4 ∧ Below w.heap.size w W4 ∧ W4.heap[w.heap.size]? = some (.cells #[.iface 256 (.pointer (some (ad 55))), .int .i64 num] 69 (0, 0))) := ⟨S3.out.1.below hb, S3.out.2.1.trans (hb.mono S3.out.2.1.size), by rw [hb.block _ (Array.getElem?_eq_some_iff.1 S3.out.2.2).1]; exact S3.out.2.2⟩
  clear hb c3 S3 p0 p1 p2
  have p0 : W4.cell? ⟨w.heap.size, 0, none⟩ = some (.iface 256 (.pointer (some (ad 55)))) := by rw [cell_of_row _ _ _ _ _ _ S4.out.2.2]; rfl
  have p1 : W4.cell? ⟨w.heap.size, 1, none⟩ = some (.int .i64 num) := by rw [cell_of_row _ _ _ _ _ _ S4.out.2.2]; rfl
  have p2 : W4.cell? ⟨4, 0, none⟩ = some (.iface 256 (.pointer (some (ad 54)))) := (S4.out.1.1 (54, 4) (by decide)).1
  have c4 : Hid (Calls Tryz.prog 38 #[.iface 69 (.agg #[.iface 256 (.pointer (some (ad 55))), .int .i64 num]), .iface 256 (.pointer (some (ad 54)))] W4 fun e w' => e = .returned (.bool false) ∧ Below W4.heap.size W4 w') := is_any S4.out.1 (55, 5) (54, 4) (by decide) (by decide) num
  go_wp2_with fail
  refine c4.out.mono ?_
  rintro e W5 ⟨rfl, hb⟩
  have S5 : Hid (Sen ad W5 ∧ Below w.heap.size w W5 ∧ W5.heap[w.heap.size]? = some (.cells #[.iface 256 (.pointer (some (ad 55))), .int .i64 num] 69 (0, 0))) := ⟨S4.out.1.below hb, S4.out.2.1.trans (hb.mono S4.out.2.1.size), by rw [hb.block _ (Array.getElem?_eq_some_iff.1 S4.out.2.2).1]; exact S4.out.2.2⟩
  clear hb c4 S4 p0 p1 p2
  have p0 : W5.cell? ⟨w.heap.size, 0, none⟩ = some (.iface 256 (.pointer (some (ad 55)))) := by rw [cell_of_row _ _ _ _ _ _ S5.out.2.2]; rfl
  have p1 : W5.cell? ⟨w.heap.size, 1, none⟩ = some (.int .i64 num) := by rw [cell_of_row _ _ _ _ _ _ S5.out.2.2]; rfl
  have p2 : W5.cell? ⟨5, 0, none⟩ = some (.iface 256 (.pointer (some (ad 55)))) := (S5.out.1.1 (55, 5) (by decide)).1
  have c5 : Hid (Calls Tryz.prog 38 #[.iface 69 (.agg #[.iface 256 (.pointer (some (ad 55))), .int .i64 num]), .iface 256 (.pointer (some (ad 55)))] W5 fun e w' => e = .returned (.bool true) ∧ Below W5.heap.size W5 w') := is_any S5.out.1 (55, 5) (55, 5) (by decide) (by decide) num
  go_wp2_with fail
  refine c5.out.mono ?_
  rintro e W6 ⟨rfl, hb⟩
  have hfin : Hid (Below w.heap.size w W6) := S5.out.2.1.trans (hb.mono S5.out.2.1.size)
  clear hb c5 S5
  go_wp2_with fail
  go_ret
  exact ⟨rfl, hfin.out⟩
set_option maxHeartbeats 4000000 in
theorem number_56 (ad : Nat → Addr) (num : Int) (w : World) (h : Sen ad w) :
    Calls Tryz.prog 50 #[.agg #[.iface 256 (.pointer (some (ad 56))), .int .i64 num]] w fun e w' => e = .returned (.int .i64 56) ∧ Below w.heap.size w w' := by
  obtain ⟨W0, hW0⟩ : ∃ W0, w.alloc (.cells #[.iface 256 (.pointer (some (ad 56))), .int .i64 num] 69) = W0 := ⟨_, rfl⟩
  have b0 : Below w.heap.size w W0 := by rw [← hW0]; exact (Below.refl _ _).alloc (Nat.le_refl _) _
  have x0 : W0.heap[w.heap.size]? = some (.cells #[.iface 256 (.pointer (some (ad 56))), .int .i64 num] 69 (0, 0)) := by rw [← hW0]; exact heap_alloc_new _ _
  have S0 : Hid (Sen ad W0 ∧ Below w.heap.size w W0 ∧ W0.heap[w.heap.size]? = some (.cells #[.iface 256 (.pointer (some (ad 56))), .int .i64 num] 69 (0, 0))) := ⟨h.below b0, b0, x0⟩
  have p0 : W0.cell? ⟨w.heap.size, 0, none⟩ = some (.iface 256 (.pointer (some (ad 56)))) := by rw [cell_of_row _ _ _ _ _ _ x0]; rfl
  have p1 : W0.cell? ⟨w.heap.size, 1, none⟩ = some (.int .i64 num) := by rw [cell_of_row _ _ _ _ _ _ x0]; rfl
  have p2 : W0.cell? ⟨0, 0, none⟩ = some (.iface 256 (.pointer (some (ad 50)))) := (S0.out.1.1 (50, 0) (by decide)).1
  clear b0 x0 h
  go_enter Tryz.func50, Tryz.ntmps50
  have c0 : Hid (Calls Tryz.prog 38 #[.iface 69 (.agg #[.iface 256 (.pointer (some (ad 56))), .int .i64 num]), .iface 256 (.pointer (some (ad 50)))] W0 fun e w' => e = .returned (.bool false) ∧ Below W0.heap.size W0 w') := is_any S0.out.1 (56, 6) (50, 0) (by decide) (by decide) num
  go_wp2_with fail
  refine c0.out.mono ?_
  rintro e W1 ⟨rfl, hb⟩
  have S1 : Hid (Sen ad W1 ∧ Below w.heap.size w W1 ∧ W1.heap[w.heap.size]? = some (.cells #[.iface 256 (.pointer (some (ad 56))), .int .i64 num] 69 (0, 0))) := ⟨S0.out.1.below hb, S0.out.2.1.trans (hb.mono S0.out.2.1.size), by rw [hb.block _ (Array.getElem?_eq_some_iff.1 S0.out.2.2).1]; exact S0.out.2.2⟩
  clear hb c0 S0 p0 p1 p2
  have p0 : W1.cell? ⟨w.heap.size, 0, none⟩ = some (.iface 256 (.pointer (some (ad 56)))) := by rw [cell_of_row _ _ _ _ _ _ S1.out.2.2]; rfl
  have p1 : W1.cell? ⟨w.heap.size, 1, none⟩ = some (.int .i64 num) := by rw [cell_of_row _ _ _ _ _ _ S1.out.2.2]; rfl
  have p2 : W1.cell? ⟨1, 0, none⟩ = some (.iface 256 (.pointer (some (ad 51)))) := (S1.out.1.1 (51, 1) (by decide)).1
  have c1 : Hid (Calls Tryz.prog 38 #[.iface 69 (.agg #[.iface 256 (.pointer (some (ad 56))), .int .i64 num]), .iface 256 (.pointer (some (ad 51)))] W1 fun e w' => e = .returned (.bool false) ∧ Below W1.heap.size W1 w') := is_any S1.out.1 (56, 6) (51, 1) (by decide) (by decide) num
  go_wp2_with fail
  refine c1.out.mono ?_
  rintro e W2 ⟨rfl, hb⟩
  have S2 : Hid (Sen ad W2 ∧ Below w.heap.size w W2 ∧ W2.heap[w.heap.size]? = some (.cells #[.iface 256 (.pointer (some (ad 56))), .int .i64 num] 69 (0, 0))) := ⟨S1.out.1.below hb, S1.out.2.1.trans (hb.mono S1.out.2.1.size), by rw [hb.block _ (Array.getElem?_eq_some_iff.1 S1.out.2.2).1]; exact S1.out.2.2⟩
  clear hb c1 S1 p0 p1 p2
  have p0 : W2.cell? ⟨w.heap.size, 0, none⟩ = some (.iface 256 (.pointer (some (ad 56)))) := by rw [cell_of_row _ _ _ _ _ _ S2.out.2.2]; rfl
  have p1 : W2.cell? ⟨w.heap.size, 1, none⟩ = some (.int .i64 num) := by rw [cell_of_row _ _ _ _ _ _ S2.out.2.2]; rfl
  have p2 : W2.cell? ⟨2, 0, none⟩ = some (.iface 256 (.pointer (some (ad 52)))) := (S2.out.1.1 (52, 2) (by decide)).1
  have c2 : Hid (Calls Tryz.prog 38 #[.iface 69 (.agg #[.iface 256 (.pointer (some (ad 56))), .int .i64 num]), .iface 256 (.pointer (some (ad 52)))] W2 fun e w' => e = .returned (.bool false) ∧ Below W2.heap.size W2 w') := is_any S2.out.1 (56, 6) (52, 2) (by decide) (by decide) num
  go_wp2_with fail
  refine c2.out.mono ?_
  rintro e W3 ⟨rfl, hb⟩
  have S3 : Hid (Sen ad W3 ∧ Below w.heap.size w W3 ∧ W3.heap[w.heap.size]? = some (.cells #[.iface 256 (.pointer (some (ad 56))), .int .i64 num] 69 (0, 0))) := ⟨S2.out.1.below hb, S2.out.2.1.trans (hb.mono S2.out.2.1.size), by rw [hb.block _ (Array.getElem?_eq_some_iff.1 S2.out.2.2).1]; exact S2.out.2.2⟩
  clear hb c2 S2 p0 p1 p2
  have p0 : W3.cell? ⟨w.heap.size, 0, none⟩ = some (.iface 256 (.pointer (some (ad 56)))) := by rw [cell_of_row _ _ _ _ _ _ S3.out.2.2]; rfl
  have p1 : W3.cell? ⟨w.heap.size, 1, none⟩ = some (.int .i64 num) := by rw [cell_of_row _ _ _ _ _ _ S3.out.2.2]; rfl
  have p2 : W3.cell? ⟨3, 0, none⟩ = some (.iface 256 (.pointer (some (ad 53)))) := (S3.out.1.1 (53, 3) (by decide)).1
  have c3 : Hid (Calls Tryz.prog 38 #[.iface 69 (.agg #[.iface 256 (.pointer (some (ad 56))), .int .i64 num]), .iface 256 (.pointer (some (ad 53)))] W3 fun e w' => e = .returned (.bool false) ∧ Below W3.heap.size W3 w') := is_any S3.out.1 (56, 6) (53, 3) (by decide) (by decide) num
  go_wp2_with fail
  refine c3.out.mono ?_
  rintro e W4 ⟨rfl, hb⟩
  have S4 : Hid (Sen ad W4 ∧ Below w.heap.size w W4 ∧ W4.heap[w.heap.size]? = some (.cells #[.iface 256 (.pointer (some (ad 56))), .int .i64 num] 69 (0, 0))) := ⟨S3.out.1.below hb, S3.out.2.1.trans (hb.mono S3.out.2.1.size), by rw [hb.block _ (Array.getElem?_eq_some_iff.1 S3.out.2.2).1]; exact S3.out.2.2⟩
  clear hb c3 S3 p0 p1 p2
  have p0 : W4.cell? ⟨w.heap.size, 0, none⟩ = some (.iface 256 (.pointer (some (ad 56)))) := by rw [cell_of_row _ _ _ _ _ _ S4.out.2.2]; rfl
  have p1 : W4.cell? ⟨w.heap.size, 1, none⟩ = some (.int .i64 num) := by rw [cell_of_row _ _ _ _ _ _ S4.out.2.2]; rfl
  have p2 : W4.cell? ⟨4, 0, none⟩ = some (.iface 256 (.pointer (some (ad 54)))) := (S4.out.1.1 (54, 4) (by decide)).1
  have c4 : Hid (Calls Tryz.prog 38 #[.iface 69 (.agg #[.iface 256 (.pointer (some (ad 56))), .int .i64 num]), .iface 256 (.pointer (some (ad 54)))] W4 fun e w' => e = .returned (.bool false) ∧ Below W4.heap.size W4 w') := is_any S4.out.1 (56, 6) (54, 4) (by decide) (by decide) num
  go_wp2_with fail
  refine c4.out.mono ?_
  rintro e W5 ⟨rfl, hb⟩
  have S5 : Hid (Sen ad W5 ∧ Below w.heap.size w W5 ∧ W5.heap[w.heap.size]? = some (.cells #[.iface 256 (.pointer (some (ad 56))), .int .i64 num] 69 (0, 0))) := ⟨S4.out.1.below hb, S4.out.2.1.trans (hb.mono S4.out.2.1.size), by rw [hb.block _ (Array.getElem?_eq_some_iff.1 S4.out.2.2).1]; exact S4.out.2.2⟩
  clear hb c4 S4 p0 p1 p2
  have p0 : W5.cell? ⟨w.heap.size, 0, none⟩ = some (.iface 256 (.pointer (some (ad 56)))) := by rw [cell_of_row _ _ _ _ _ _ S5.out.2.2]; rfl
  have p1 : W5.cell? ⟨w.heap.size, 1, none⟩ = some (.int .i64 num) := by rw [cell_of_row _ _ _ _ _ _ S5.out.2.2]; rfl
  have p2 : W5.cell? ⟨5, 0, none⟩ = some (.iface 256 (.pointer (some (ad 55)))) := (S5.out.1.1 (55, 5) (by decide)).1
  have c5 : Hid (Calls Tryz.prog 38 #[.iface 69 (.agg #[.iface 256 (.pointer (some (ad 56))), .int .i64 num]), .iface 256 (.pointer (some (ad 55)))] W5 fun e w' => e = .returned (.bool false) ∧ Below W5.heap.size W5 w') := is_any S5.out.1 (56, 6) (55, 5) (by decide) (by decide) num
  go_wp2_with fail
  refine c5.out.mono ?_
  rintro e W6 ⟨rfl, hb⟩
  have S6 : Hid (Sen ad W6 ∧ Below w.heap.size w W6 ∧ W6.heap[w.heap.size]? = some (.cells #[.iface 256 (.pointer (some (ad 56))), .int .i64 num] 69 (0, 0))) := ⟨S5.out.1.below hb, S5.out.2.1.trans (hb.mono S5.out.2.1.size), by rw [hb.block _ (Array.getElem?_eq_some_iff.1 S5.out.2.2).1]; exact S5.out.2.2⟩
  clear hb c5 S5 p0 p1 p2
  have p0 : W6.cell? ⟨w.heap.size, 0, none⟩ = some (.iface 256 (.pointer (some (ad 56)))) := by rw [cell_of_row _ _ _ _ _ _ S6.out.2.2]; rfl
  have p1 : W6.cell? ⟨w.heap.size, 1, none⟩ = some (.int .i64 num) := by rw [cell_of_row _ _ _ _ _ _ S6.out.2.2]; rfl
  have p2 : W6.cell? ⟨6, 0, none⟩ = some (.iface 256 (.pointer (some (ad 56)))) := (S6.out.1.1 (56, 6) (by decide)).1
  have c6 : Hid (Calls Tryz.prog 38 #[.iface 69 (.agg #[.iface 256 (.pointer (some (ad 56))), .int .i64 num]), .iface 256 (.pointer (some (ad 56)))] W6 fun e w' => e = .returned (.bool true) ∧ Below W6.heap.size W6 w') := is_any S6.out.1 (56, 6) (56, 6) (by decide) (by decide) num
  go_wp2_with fail
  refine c6.out.mono ?_
  rintro e W7 ⟨rfl, hb⟩
  have hfin : Hid (Below w.heap.size w W7) := S6.out.2.1.trans (hb.mono S6.out.2.1.size)
  clear hb c6 S6
  go_wp2_with fail
  go_ret
  exact ⟨rfl, hfin.out⟩
theorem number_all (ad : Nat → Addr) (k : Nat) (num : Int) (w : World) (h : Sen ad w) (hk : 50 ≤ k ∧ k ≤ 59) :
    Calls Tryz.prog 50 #[.agg #[.iface 256 (.pointer (some (ad k))), .int .i64 num]] w fun e w' => e = .returned (.int .i64 (k : Int)) ∧ Below w.heap.size w w' := by
  have h1 : k = 50 ∨ k = 51 ∨ k = 52 ∨ k = 53 ∨ k = 54 ∨ k = 55 ∨ k = 56 ∨ k = 57 ∨ k = 58 ∨ k = 59 := by omega
  rcases h1 with rfl | rfl | rfl | rfl | rfl | rfl | rfl | rfl | rfl | rfl
  · exact number_50 ad num w h
  · exact number_51 ad num w h
  · exact number_52 ad num w h
  · exact number_53 ad num w h
  · exact number_54 ad num w h
  · exact number_55 ad num w h
  · exact number_56 ad num w h
  · exact number_57 ad num w h
  · exact number_58 ad num w h
  · exact number_59 ad num w h
set_option maxHeartbeats 2000000 in
/-- Fault of a refusal. -/
theorem fault_all (ad : Nat → Addr) (k : Nat) (num : Int) (w : World) (h : Sen ad w) (hT : ErrT w) (hk : 50 ≤ k ∧ k ≤ 59) :
    Calls Tryz.prog 25 #[.iface 69 (.agg #[.iface 256 (.pointer (some (ad k))), .int .i64 num])] w fun e w' => e = .returned (.tuple #[.int .i64 (k : Int), .int .i64 num]) ∧ Below w.heap.size w w' := by
  have cF : Hid (Calls Tryz.prog 49 #[.iface 69 (.agg #[.iface 256 (.pointer (some (ad k))), .int .i64 num])] w fun e w' => e = .returned (.tuple #[.agg #[.iface 256 (.pointer (some (ad k))), .int .i64 num], .bool true]) ∧ Below w.heap.size w w') := find_any _ _ num w hT
  have h' : Hid (Sen ad w) := h
  have hk' : Hid (50 ≤ k ∧ k ≤ 59) := hk
  clear h hT hk
  go_enter Tryz.func25, Tryz.ntmps25
  go_wp2_with fail
  refine cF.out.mono ?_
  rintro e W1 ⟨rfl, hb1⟩
  obtain ⟨W2, hW2⟩ : ∃ W2, W1.alloc (.cells #[.iface 256 (.pointer (some (ad k))), .int .i64 num] 69) = W2 := ⟨_, rfl⟩
  have b2 : Below W1.heap.size W1 W2 := by rw [← hW2]; exact (Below.refl _ _).alloc (Nat.le_refl _) _
  have x2 : W2.heap[W1.heap.size]? = some (.cells #[.iface 256 (.pointer (some (ad k))), .int .i64 num] 69 (0, 0)) := by rw [← hW2]; exact heap_alloc_new _ _
  have hB2 : Hid (Below w.heap.size w W2) := hb1.trans (b2.mono hb1.size)
  have hBd : Hid (Below w.heap.size w W2.drew) := hB2.out.trans ⟨rfl, rfl, rfl, Nat.le_refl _, fun _ _ => rfl⟩
  have S2 : Hid (Sen ad W2.drew) := (h'.out.below hB2.out).below ⟨rfl, rfl, rfl, Nat.le_refl _, fun _ _ => rfl⟩
  have cd : W2.drew.cell? ⟨W1.heap.size, 0, none⟩ = some (.iface 256 (.pointer (some (ad k)))) ∧ W2.drew.cell? ⟨W1.heap.size, 1, none⟩ = some (.int .i64 num) := ⟨(cell_of_row _ _ _ _ _ _ x2).trans rfl, (cell_of_row _ _ _ _ _ _ x2).trans rfl⟩
  have cN : Hid (Calls Tryz.prog 50 #[.agg #[.iface 256 (.pointer (some (ad k))), .int .i64 num]] W2.drew fun e w' => e = .returned (.int .i64 (k : Int)) ∧ Below W2.drew.heap.size W2.drew w') := number_all ad k num W2.drew S2.out hk'.out
  clear hb1 b2 x2 cF
  go_wp2_with fail
  go_region_held3 (fun w' => w'.cell? ⟨W1.heap.size, 0, none⟩ = some (.iface 256 (.pointer (some (ad k)))) ∧ w'.cell? ⟨W1.heap.size, 1, none⟩ = some (.int .i64 num))
    (first | exact cd8 | exact cd)
    (first | (go_at_call 50; refine cN.out.mono ?_; rintro e w8 ⟨rfl, hb8⟩; have cd8 := And.intro ((hb8.cell (World.block_lt_of_cell? _ _ cd.1)).trans cd.1) ((hb8.cell (World.block_lt_of_cell? _ _ cd.2)).trans cd.2); have hfin : Hid (Below w.heap.size w w8) := hBd.out.trans (hb8.mono hBd.out.size); clear hb8))
  clear cd cd8 cN
  go_wp2_with fail
  go_ret2
  exact ⟨rfl, hfin.out⟩
set_option maxHeartbeats 1000000 in
/-- The law's fault of a refusal. -/
theorem lfault_all (ad : Nat → Addr) (k : Nat) (num : Int) (w : World) (h : Sen ad w) (hT : ErrT w) (hk : 50 ≤ k ∧ k ≤ 59) :
    Calls Tryz.prog 17 #[.iface 69 (.agg #[.iface 256 (.pointer (some (ad k))), .int .i64 num]), .int .i64 (k : Int), .int .i64 num] w fun e w' => e = .returned (.bool true) ∧ Below w.heap.size w w' := by
  have cF : Hid (Calls Tryz.prog 25 #[.iface 69 (.agg #[.iface 256 (.pointer (some (ad k))), .int .i64 num])] w fun e w' => e = .returned (.tuple #[.int .i64 (k : Int), .int .i64 num]) ∧ Below w.heap.size w w') := fault_all ad k num w h hT hk
  have k0 : ((k : Int) == 0) = false := by rw [beq_eq_false_iff_ne]; omega
  have kk : ((k : Int) == (k : Int)) = true := by rw [beq_iff_eq]
  have nn : (num == num) = true := by rw [beq_iff_eq]
  clear h hT hk
  go_enter Tryz.func17, Tryz.ntmps17
  go_wp2_with fail
  refine cF.out.mono ?_
  rintro e W1 ⟨rfl, hb⟩
  have hb' : Hid (Below w.heap.size w W1) := hb
  clear cF hb
  go_wp2_with fail
  go_ret
  exact ⟨rfl, hb'.out⟩
set_option maxHeartbeats 1000000 in
theorem lfault_none (w : World) : Calls Tryz.prog 17 #[.nilIface, .int .i64 0, .int .i64 0] w fun e w' => e = .returned (.bool true) ∧ Below w.heap.size w w' := by
  have cF : Hid (Calls Tryz.prog 25 #[.nilIface] w fun e w' => e = .returned (.tuple #[.int .i64 0, .int .i64 0]) ∧ w' = w) := fault_nil w
  go_enter Tryz.func17, Tryz.ntmps17
  go_wp2_with fail
  refine cF.out.mono ?_
  rintro e W1 ⟨rfl, rfl⟩
  clear cF
  go_wp2_with fail
  go_ret
  exact ⟨rfl, Below.refl _ _⟩
end Ke
end Go.Proofs.YtkknenmpdimdbaaGreatDoor
