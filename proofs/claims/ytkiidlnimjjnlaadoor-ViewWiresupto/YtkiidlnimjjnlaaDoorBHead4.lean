import Derived.Test.YtkiidlnimjjnlaaDoorBHead3
namespace Go.Proofs.YtkiidlnimjjnlaaDoor
open Go.RowKit
open BerMath (Hd HR num hAt)

/-- What Head answers. -/
def headV (s : ByteArray) : Value :=
  match hAt s.data.toList 0 s.size with
  | .ok h => .tuple #[hdV h, .int .i64 0]
  | .error (some (c, _)) => .tuple #[.agg hdZ.toArray, .int .i64 (c : Int)]
  | .error none => .tuple #[.agg hdZ.toArray, .int .i64 20]
theorem headV_bad (s : ByteArray) (c q : Int) (h : headR s.data.toList 0 s.size 20 = gaveUp c q) : headV s = .tuple #[.agg hdZ.toArray, .int .i64 c] := by
  unfold headR at h
  unfold headV
  cases hh : hAt s.data.toList 0 s.size with
  | ok x => rw [hh] at h; cases h
  | error o =>
    cases o with
    | some cq =>
      obtain ⟨a, b⟩ := cq
      rw [hh] at h; simp [gaveUp] at h
      show Value.tuple #[.agg hdZ.toArray, .int .i64 (a : Int)] = _
      rw [h.1]
    | none =>
      rw [hh] at h; simp [gaveUp] at h
      show Value.tuple #[.agg hdZ.toArray, .int .i64 20] = _
      rw [h.1]

end Go.Proofs.YtkiidlnimjjnlaaDoor
