import Derived.Test.YtoknbicfbeocbaaDoorBRefHead0
namespace Go.Proofs.YtoknbicfbeocbaaDoor
open Go.RowKit
open BerMath (Hd HR num hAt)

/-- What the reference's headAt answers. -/
def refHV (b : List UInt8) (p e : Nat) : Value :=
  match hAt b p e with
  | .ok h => .tuple #[hdV h, .int .i64 0, .int .i64 (p : Int)]
  | .error (some (c, q)) => .tuple #[.agg hdZ.toArray, .int .i64 (c : Int), .int .i64 (q : Int)]
  | .error none => .tuple #[.agg hdZ.toArray, .int .i64 (-1), .int .i64 (e : Int)]

theorem w_nat (n : Nat) (h : n < 256) : wrap64 (n : Int) = (n : Int) := by unfold wrap64; omega
theorem w_p1 (p : Nat) (h : p ≤ 140737488355328) : wrap64 ((p : Int) + 1) = (p : Int) + 1 := by unfold wrap64; omega
theorem w_p2 (p : Nat) (h : p ≤ 140737488355328) : Hid (wrap64 ((p : Int) + 2) = ((p + 2 : Nat) : Int)) := by unfold Hid wrap64; omega
theorem w_X (l : Nat) (h : l < 256) : wrap64 (2 + (l : Int)) = 2 + (l : Int) := by unfold wrap64; omega
theorem w_Z (l k : Nat) (h : l = 128 + k) (h2 : l < 256) : wrap64 (2 + (l : Int) - 128) = ((k + 2 : Nat) : Int) := by unfold wrap64; omega
theorem w_Q (p k : Nat) (h : p ≤ 140737488355328) (h2 : k ≤ 4) : wrap64 ((p : Int) + ((k + 2 : Nat) : Int)) = ((p + 2 + k : Nat) : Int) := by unfold wrap64; omega

theorem refHV_tup (b : List UInt8) (p e : Nat) : ∃ (l0 : Int) (l1 : Bool) (l2 l3 l4 c q : Int), refHV b p e = .tuple #[.agg #[.int .i64 l0, .bool l1, .int .i64 l2, .int .i64 l3, .int .i64 l4], .int .i64 c, .int .i64 q] := by
  unfold refHV
  cases hAt b p e with
  | ok h => exact ⟨_, _, _, _, _, _, _, rfl⟩
  | error o =>
    cases o with
    | some cq =>
      obtain ⟨c, q⟩ := cq
      exact ⟨0, false, 0, 0, 0, _, _, rfl⟩
    | none => exact ⟨0, false, 0, 0, 0, _, _, rfl⟩
end Go.Proofs.YtoknbicfbeocbaaDoor
