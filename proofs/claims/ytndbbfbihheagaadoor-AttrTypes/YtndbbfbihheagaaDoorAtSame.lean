import Derived.Test.YtndbbfbihheagaaDoorAtNum
import Derived.Test.YtndbbfbihheagaaDoorAtBook
import Derived.WalkSmall
import Derived.BigQuiet
import Derived.Deep.DeepCutAuto
namespace Go.Proofs.YtndbbfbihheagaaDoor
open Go.RowKit

/-- Two lists of no more than one text each, that hold the same. -/
def SameAl (W : World) (a b : Value) : Prop := (a = .slice none 0 0 ∧ b = .slice none 0 0) ∨ ∃ g c g' c' x, a = .slice (some ⟨g, 0, none⟩) 1 c ∧ b = .slice (some ⟨g', 0, none⟩) 1 c' ∧ W.cell? ⟨g, 0, none⟩ = some (.string x) ∧ W.cell? ⟨g', 0, none⟩ = some (.string x)
theorem SameAl.below {W W' : World} {a b : Value} (h : SameAl W a b) (hb : Below W.heap.size W W') : SameAl W' a b := by
  rcases h with h | ⟨g, c, g', c', x, h1, h2, h3, h4⟩
  · exact Or.inl h
  · exact Or.inr ⟨g, c, g', c', x, h1, h2, by rw [hb.cell (World.block_lt_of_cell? W _ h3)]; exact h3, by rw [hb.cell (World.block_lt_of_cell? W _ h4)]; exact h4⟩
set_option maxRecDepth 100000 in
theorem sameAl_any (a b : Value) (W : World) (h : SameAl W a b) : Calls Tryd.prog 12 #[a, b] W fun e w' => e = .returned (.bool true) ∧ Below W.heap.size W w' := by
  rcases h with ⟨rfl, rfl⟩ | ⟨g, c, g', c', x, rfl, rfl, h3, h4⟩
  · go_enter Tryd.func12, Tryd.ntmps12
    go_wp2_with fail
    go_loopw [5] (fun iv wr => iv = .int .i64 0 ∧ Hid (Below W.heap.size W wr)) (fun _ _ => 0)
    case atStart => exact ⟨rfl, Below.refl _ _⟩
    case round =>
      obtain ⟨rfl, hb⟩ := hrel
      go_wp2_with fail
      go_ret
      exact ⟨rfl, hb.out⟩
  · go_enter Tryd.func12, Tryd.ntmps12
    go_wp2_with fail
    go_loopw [5] (fun iv wr => ∃ k : Nat, k ≤ 1 ∧ iv = .int .i64 (k : Int) ∧ Hid (Below W.heap.size W wr)) (fun iv _ => 1 - (intOf iv).toNat)
    case atStart => exact ⟨0, by omega, rfl, Below.refl _ _⟩
    case round =>
      obtain ⟨k, hk, rfl, hb⟩ := hrel
      have q3 : wr.cell? ⟨g, 0, none⟩ = some (.string x) := by rw [hb.out.cell (World.block_lt_of_cell? W _ h3)]; exact h3
      have q4 : wr.cell? ⟨g', 0, none⟩ = some (.string x) := by rw [hb.out.cell (World.block_lt_of_cell? W _ h4)]; exact h4
      obtain rfl | rfl : k = 0 ∨ k = 1 := by omega
      · go_upto_region 6 with fail
        go_quiet (fail)
        go_wp2_with fail
        refine ⟨⟨1, by omega, by simp, ?_⟩, ?_⟩
        · exact below_drewN hb.out _
        · simp [intOf]
      · go_wp2_with fail
        go_ret
        exact ⟨rfl, hb.out⟩

set_option maxRecDepth 100000 in
set_option maxHeartbeats 400000 in
theorem sameRow_any (n o sp : ByteArray) (y1 y2 : Int) (a1 b1 : Option Addr) (a2 a3 b2 b3 : Nat) (W : World) (h : SameAl W (.slice a1 a2 a3) (.slice b1 b2 b3)) :
    Calls Tryd.prog 6 #[.agg #[.string n, .slice a1 a2 a3, .string o, .string sp, .int .i64 y1, .int .i64 y2], .agg #[.string n, .slice b1 b2 b3, .string o, .string sp, .int .i64 y1, .int .i64 y2]] W fun e w' => e = .returned (.bool true) ∧ Below W.heap.size W w' := by
  obtain ⟨Wa, hWa⟩ : ∃ Wa, (W.alloc (.cells #[.string n, .slice a1 a2 a3, .string o, .string sp, .int .i64 y1, .int .i64 y2] 32)).alloc (.cells #[.string n, .slice b1 b2 b3, .string o, .string sp, .int .i64 y1, .int .i64 y2] 32) = Wa := ⟨_, rfl⟩
  have hBa : Hid (Below W.heap.size W Wa) := by unfold Hid; rw [← hWa]; exact ((Below.refl _ _).alloc (Nat.le_refl _) _).alloc (by simp) _
  have hS : Hid (Calls Tryd.prog 12 #[.slice a1 a2 a3, .slice b1 b2 b3] Wa fun e w' => e = .returned (.bool true) ∧ Below Wa.heap.size Wa w') := sameAl_any _ _ Wa (h.below hBa.out)
  have hA : Wa.heap[W.heap.size]? = some (.cells #[.string n, .slice a1 a2 a3, .string o, .string sp, .int .i64 y1, .int .i64 y2] 32 (0, 0)) := by
    rw [← hWa, Below.heap_alloc _ _ _ (by simp)]; exact heap_alloc_last W _
  have hA' : Wa.heap[W.heap.size + 1]? = some (.cells #[.string n, .slice b1 b2 b3, .string o, .string sp, .int .i64 y1, .int .i64 y2] 32 (0, 0)) := by
    rw [← hWa]
    have h := heap_alloc_last (W.alloc (.cells #[.string n, .slice a1 a2 a3, .string o, .string sp, .int .i64 y1, .int .i64 y2] 32)) (.cells #[.string n, .slice b1 b2 b3, .string o, .string sp, .int .i64 y1, .int .i64 y2] 32)
    simpa using h
  have p0 := (row_cell hA (j := 0) (by simp)).1
  have r0 := (row_cell hA' (j := 0) (by simp)).1
  have p1 := (row_cell hA (j := 1) (by simp)).1
  have r1 := (row_cell hA' (j := 1) (by simp)).1
  have p2 := (row_cell hA (j := 2) (by simp)).1
  have r2 := (row_cell hA' (j := 2) (by simp)).1
  have p3 := (row_cell hA (j := 3) (by simp)).1
  have r3 := (row_cell hA' (j := 3) (by simp)).1
  have p4 := (row_cell hA (j := 4) (by simp)).1
  have r4 := (row_cell hA' (j := 4) (by simp)).1
  have p5 := (row_cell hA (j := 5) (by simp)).1
  have r5 := (row_cell hA' (j := 5) (by simp)).1
  simp only [List.getElem_toArray, List.getElem_cons_zero, List.getElem_cons_succ] at p0 p1 p2 p3 p4 p5 r0 r1 r2 r3 r4 r5
  clear hA hA' h
  go_enter Tryd.func6, Tryd.ntmps6
  go_wp2_with fail
  refine hS.out.mono ?_
  rintro e W4 ⟨rfl, hb1⟩
  go_wp2_with fail
  go_ret
  exact ⟨rfl, hBa.out.trans (hb1.mono hBa.out.size)⟩
end Go.Proofs.YtndbbfbihheagaaDoor
