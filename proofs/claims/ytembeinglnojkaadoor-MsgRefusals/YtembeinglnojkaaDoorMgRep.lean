import Derived.Test.YtembeinglnojkaaDoorMgSame
namespace Go.Proofs.YtembeinglnojkaaDoor
open Go.RowKit
set_option linter.unusedVariables false

/-- A reply without lists. -/
abbrev rpA (id kind code : Int) (mt tx nm od : ByteArray) (ho : Bool) : Array Value := #[.int .i64 id, .int .i64 kind, .int .i64 code, .string mt, .string tx, .string nm, .slice none 0 0, .string od, .bool ho, .slice none 0 0]
theorem ne_res (code : Int) (mt tx : ByteArray) (W : World) :
    (binOp .neq 40 (.agg #[.int .i64 code, .string mt, .string tx]) (.agg #[.int .i64 code, .string mt, .string tx])).run Tryd.prog W = .ok (.bool false) W := by
  have hS : Tryd.prog.underlying 40 = some (.struct (Tryd.prog.fieldsOf 40)) := by kernel_rfl
  have hp : Tryd.prog.stoodInHeld 40 = false := by kernel_rfl
  rw [run_neq_struct, run_equalIn_struct _ _ _ _ _ hS hp]
  simp only [Program.fieldsOf, Tryd.underlying40]
  simp [Op.eqFields, go_sem]
set_option maxRecDepth 100000 in
set_option maxHeartbeats 4000000 in
theorem sameReply_any (id kind code : Int) (mt tx nm od : ByteArray) (ho : Bool) (w : World) :
    Calls Tryd.prog 7 #[.agg #[.int .i64 id, .int .i64 kind, .int .i64 code, .string mt, .string tx, .string nm, .slice none 0 0, .string od, .bool ho, .slice none 0 0], .agg #[.int .i64 id, .int .i64 kind, .int .i64 code, .string mt, .string tx, .string nm, .slice none 0 0, .string od, .bool ho, .slice none 0 0]] w fun e w' => e = .returned (.bool true) ∧ Below w.heap.size w w' := by
  obtain ⟨wA, hwA⟩ : ∃ W, w.alloc (.cells #[.int .i64 id, .int .i64 kind, .int .i64 code, .string mt, .string tx, .string nm, .slice none 0 0, .string od, .bool ho, .slice none 0 0] 42) = W := ⟨_, rfl⟩
  obtain ⟨wB, hwB⟩ : ∃ W, wA.alloc (.cells #[.int .i64 id, .int .i64 kind, .int .i64 code, .string mt, .string tx, .string nm, .slice none 0 0, .string od, .bool ho, .slice none 0 0] 42) = W := ⟨_, rfl⟩
  have hA : Below w.heap.size w wA := by rw [← hwA]; exact (Below.refl _ _).alloc (Nat.le_refl _) _
  have hB : Below wA.heap.size wA wB := by rw [← hwB]; exact (Below.refl _ _).alloc (Nat.le_refl _) _
  have hAB : Below w.heap.size w wB := hA.trans (hB.mono hA.size)
  have p : Box wB w.heap.size 42 #[.int .i64 id, .int .i64 kind, .int .i64 code, .string mt, .string tx, .string nm, .slice none 0 0, .string od, .bool ho, .slice none 0 0] := by rw [← hwB]; exact Box.past (by rw [← hwA]; exact Box.new _ _ _) _
  have q : Box wB wA.heap.size 42 #[.int .i64 id, .int .i64 kind, .int .i64 code, .string mt, .string tx, .string nm, .slice none 0 0, .string od, .bool ho, .slice none 0 0] := by rw [← hwB]; exact Box.new _ _ _
  have hne := ne_res code mt tx
  have hAt : Hid (Calls Tryd.prog 19 #[.slice none 0 0, .slice none 0 0] wB fun e w' => e = .returned (.bool true) ∧ Below wB.heap.size wB w') :=
    (sameAttrs_any [] [] none none 0 0 wB (by decide) (fun x hx => by cases hx) ⟨GRow.nil _ _ _ _, fun x hx => by cases hx⟩ ⟨GRow.nil _ _ _ _, fun x hx => by cases hx⟩ rfl).mono (fun e w' ⟨h, m, hm⟩ => ⟨h, by rw [hm]; exact drewN_below _ _ _⟩)
  have hCo : Hid (∀ W, Below wB.heap.size wB W → Calls Tryd.prog 20 #[.slice none 0 0, .slice none 0 0] W fun e w' => e = .returned (.bool true) ∧ Below wB.heap.size wB w') := fun W hW =>
    (sameControls_any [] none none 0 0 W (by decide) (GRow.nil _ _ _ _) (GRow.nil _ _ _ _)).mono (fun e w' ⟨h, m, hm⟩ => ⟨h, by rw [hm]; exact hW.trans (drewN_below _ _ _)⟩)
  obtain ⟨c0, c1, c2, c3, c4, c5, c6, c7, c8⟩ : wB.cell? ⟨w.heap.size, 0, none⟩ = some (.int .i64 id) ∧ wB.cell? ⟨w.heap.size, 1, none⟩ = some (.int .i64 kind) ∧ wB.cell? ⟨w.heap.size, 2, none⟩ = some (.int .i64 code) ∧ wB.cell? ⟨w.heap.size, 3, none⟩ = some (.string mt) ∧ wB.cell? ⟨w.heap.size, 4, none⟩ = some (.string tx) ∧ wB.cell? ⟨w.heap.size, 5, none⟩ = some (.string nm) ∧ wB.cell? ⟨w.heap.size, 6, none⟩ = some (.slice none 0 0) ∧ wB.cell? ⟨w.heap.size, 7, none⟩ = some (.string od) ∧ wB.cell? ⟨w.heap.size, 8, none⟩ = some (.bool ho) := ⟨(p.cell 0 (by simp)).1, (p.cell 1 (by simp)).1, (p.cell 2 (by simp)).1, (p.cell 3 (by simp)).1, (p.cell 4 (by simp)).1, (p.cell 5 (by simp)).1, (p.cell 6 (by simp)).1, (p.cell 7 (by simp)).1, (p.cell 8 (by simp)).1⟩
  obtain ⟨d0, d1, d2, d3, d4, d5, d6, d7, d8⟩ : wB.cell? ⟨wA.heap.size, 0, none⟩ = some (.int .i64 id) ∧ wB.cell? ⟨wA.heap.size, 1, none⟩ = some (.int .i64 kind) ∧ wB.cell? ⟨wA.heap.size, 2, none⟩ = some (.int .i64 code) ∧ wB.cell? ⟨wA.heap.size, 3, none⟩ = some (.string mt) ∧ wB.cell? ⟨wA.heap.size, 4, none⟩ = some (.string tx) ∧ wB.cell? ⟨wA.heap.size, 5, none⟩ = some (.string nm) ∧ wB.cell? ⟨wA.heap.size, 6, none⟩ = some (.slice none 0 0) ∧ wB.cell? ⟨wA.heap.size, 7, none⟩ = some (.string od) ∧ wB.cell? ⟨wA.heap.size, 8, none⟩ = some (.bool ho) := ⟨(q.cell 0 (by simp)).1, (q.cell 1 (by simp)).1, (q.cell 2 (by simp)).1, (q.cell 3 (by simp)).1, (q.cell 4 (by simp)).1, (q.cell 5 (by simp)).1, (q.cell 6 (by simp)).1, (q.cell 7 (by simp)).1, (q.cell 8 (by simp)).1⟩
  have hK : Hid (∀ W, Below wB.heap.size wB W → W.cell? ⟨w.heap.size, 9, none⟩ = some (.slice none 0 0) ∧ W.cell? ⟨wA.heap.size, 9, none⟩ = some (.slice none 0 0)) := fun W hb => ⟨((p.below hb).cell 9 (by simp)).1, ((q.below hb).cell 9 (by simp)).1⟩
  have hAB' : Hid (Below w.heap.size w wB) := hAB
  clear p q hA hB hAB
  go_enter Tryd.func7, Tryd.ntmps7
  go_upto_region 1 with fail
  clear hwA hwB
  go_wp2_with (first | (go_at_call 19; refine hAt.out.mono ?_; rintro e w1 ⟨rfl, hb1⟩; obtain ⟨k7, m7⟩ := hK.out w1 hb1) | (go_at_call 20; refine (hCo.out w1 hb1).mono ?_; rintro e w2 ⟨rfl, hb2⟩))
  go_ret
  exact ⟨rfl, hAB'.out.trans (hb2.mono hAB'.out.size)⟩
end Go.Proofs.YtembeinglnojkaaDoor
