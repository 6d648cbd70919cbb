import Derived.Test.YtkknenmpdimdbaaGreatDoorPdD
import Derived.Test.YtkknenmpdimdbaaGreatDoorFZ20
namespace Go.Proofs.YtkknenmpdimdbaaGreatDoor
namespace Pa
open Go.RowKit
open TextMath (fold lo normal check wo unhex)
open Ke (tyOk tyC utf PR rparse_ty rcheck_ty)
open Du (PRow prow_at)
set_option linter.unusedVariables false
set_option linter.unusedSimpArgs false
set_option maxRecDepth 100000

/-- The pair's box, and when it has been written. -/
def Ab (w W : World) : Prop := W.heap[w.heap.size]? = some (.cells #[.string ⟨#[]⟩, .string ⟨#[]⟩] 64 (0, 0)) ∧ Below w.heap.size w W
theorem Ab.below {w W W' : World} (h : Ab w W) (hb : Below W.heap.size W W') : Ab w W' := ⟨(hb.block _ (Array.getElem?_eq_some_iff.1 h.1).1).trans h.1, h.2.trans (hb.mono h.2.size)⟩
theorem Ab.cells {w W : World} (h : Ab w W) : (W.cell? ⟨w.heap.size, 0, none⟩ = some (.string ⟨#[]⟩) ∧ W.cell? ⟨w.heap.size, 1, none⟩ = some (.string ⟨#[]⟩)) ∧ W.frozen? ⟨w.heap.size, 0, none⟩ = false ∧ W.frozen? ⟨w.heap.size, 1, none⟩ = false := by
  refine ⟨⟨?_, ?_⟩, Go.frozen_of_row _ _ _ _ _ h.1, Go.frozen_of_row _ _ _ _ _ h.1⟩
  · rw [cell_of_row _ _ _ _ _ _ h.1]; rfl
  · rw [cell_of_row _ _ _ _ _ _ h.1]; rfl
theorem Ab.done {w W : World} (h : Ab w W) (x y : Value) : (loadVar 64 ⟨w.heap.size, 0, none⟩).run Tryz.prog ((W.setCell ⟨w.heap.size, 0, none⟩ x).setCell ⟨w.heap.size, 1, none⟩ y) = .ok (.agg #[x, y]) ((W.setCell ⟨w.heap.size, 0, none⟩ x).setCell ⟨w.heap.size, 1, none⟩ y) ∧ Below w.heap.size w ((W.setCell ⟨w.heap.size, 0, none⟩ x).setCell ⟨w.heap.size, 1, none⟩ y) := by
  have h1 := Go.heap_setCell_same _ w.heap.size 1 _ _ y (Go.heap_setCell_same W w.heap.size 0 _ _ x h.1)
  exact ⟨run_loadVar_row (P := Tryz.prog) _ w.heap.size 64 64 #[x, y] (0, 0) _ h1 Tryz.underlying64 rfl (by kernel_rfl), (h.2.setCell (p := ⟨w.heap.size, 0, none⟩) (Nat.le_refl _) _).setCell (p := ⟨w.heap.size, 1, none⟩) (Nat.le_refl _) _⟩
abbrev RP := Except (Nat × Nat) (PR × List UInt8)
/-- What is read of a pair. -/
def prR (ps : List PR) (l : List UInt8) : RP :=
  match pt (ps.map fun p => tyC p.1) l with
  | .error e => .error e
  | .ok x => match (if x.2.head? = some 35 then hxR (x.2.drop 1) else tv (x.2.length + 1) x.2 [] 0) with
    | .error e => .error e
    | .ok y => if utf y.1 = true then .ok ((x.1, y.1), y.2) else .error (51, x.2.length)
theorem prR_pv (ps : List PR) (l : List UInt8) : prR ps l = match pt (ps.map fun p => tyC p.1) l with
    | .error e => .error e
    | .ok x => match pv hxO x.2 with
      | some (.error e) => .error e
      | some (.ok y) => .ok ((x.1, y.1), y.2)
      | none => .error (0, 0) := by
  unfold prR
  cases pt (ps.map fun p => tyC p.1) l with
  | error e => rfl
  | ok x =>
    dsimp only
    rw [pv_eq]
    have e : (if x.2.head? = some 35 then hxO (x.2.drop 1) else some (tv (x.2.length + 1) x.2 [] 0)) = some (if x.2.head? = some 35 then hxR (x.2.drop 1) else tv (x.2.length + 1) x.2 [] 0) := by
      unfold hxO
      split <;> rfl
    rw [e]
    cases (if x.2.head? = some 35 then hxR (x.2.drop 1) else tv (x.2.length + 1) x.2 [] 0) with
    | error e => rfl
    | ok y =>
      show _ = match (some (chkV x.2.length (.ok y)) : Option VR) with
        | some (.error e) => Except.error e
        | some (.ok y) => Except.ok ((x.1, y.1), y.2)
        | none => Except.error (0, 0)
      unfold chkV
      dsimp only
      split <;> rfl
def rpV (n : Nat) : RP → Value
  | .ok x => .tuple #[.agg #[.string (S x.1.1), .string (S x.1.2)], .int .i64 0, .int .i64 0]
  | .error e => .tuple #[.agg #[.string ⟨#[]⟩, .string ⟨#[]⟩], .int .i64 (e.1 : Int), .int .i64 ((n - e.2 : Nat) : Int)]
/-- What the reference's pair answers. -/
def RpQ (s : ByteArray) (t : Nat) (w : World) (R : RP) (e : Ending) (w' : World) : Prop := e = .returned (rpV s.size R) ∧ (∀ x r, R = .ok (x, r) → r = lf s t ∧ x.1.length ≤ 4096 ∧ x.2.length ≤ 4096) ∧ (∀ k m, R = .error (k, m) → k ≠ 0) ∧ Below w.heap.size w w'
theorem tb_ok : ∀ c, tb c = true → c ≠ 92 ∧ c ≠ 44 ∧ c ≠ 43 := by
  intro c h
  have key : ∀ n : Fin 256, tb (UInt8.ofNat n.val) = true → UInt8.ofNat n.val ≠ 92 ∧ UInt8.ofNat n.val ≠ 44 ∧ UInt8.ofNat n.val ≠ 43 := by decide +kernel
  have h2 := key ⟨c.toNat, c.toNat_lt⟩
  rw [UInt8.ofNat_toNat] at h2
  exact h2 h
end Pa
end Go.Proofs.YtkknenmpdimdbaaGreatDoor
