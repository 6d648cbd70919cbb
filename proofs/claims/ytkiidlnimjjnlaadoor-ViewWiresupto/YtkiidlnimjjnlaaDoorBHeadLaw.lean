import Derived.Test.YtkiidlnimjjnlaaDoorBRefHead
import Derived.Laws.StructEq
namespace Go.Proofs.YtkiidlnimjjnlaaDoor
open Go.RowKit
open BerMath (Hd HR num hAt)

theorem eq_hdr (l0 : Int) (l1 : Bool) (l2 l3 l4 : Int) (m0 : Int) (m1 : Bool) (m2 m3 m4 : Int) (W : World) :
    (binOp .eql 74 (.agg #[.int .i64 l0, .bool l1, .int .i64 l2, .int .i64 l3, .int .i64 l4]) (.agg #[.int .i64 m0, .bool m1, .int .i64 m2, .int .i64 m3, .int .i64 m4])).run Tryd.prog W = .ok (.bool ((l0 == m0) && (l1 == m1) && (l2 == m2) && (l3 == m3) && (l4 == m4))) W := by
  have hS : Tryd.prog.underlying 74 = some (.struct (Tryd.prog.fieldsOf 74)) := by kernel_rfl
  have hp : Tryd.prog.stoodInHeld 74 = false := by kernel_rfl
  rw [run_eql_struct, run_equalIn_struct _ _ _ _ _ hS hp]
  simp only [Program.fieldsOf, Tryd.underlying74]
  simp [Op.eqFields, go_sem]
  by_cases h0 : l0 = m0 <;> by_cases h1 : l1 = m1 <;> by_cases h2 : l2 = m2 <;> by_cases h3 : l3 = m3 <;> by_cases h4 : l4 = m4 <;> simp_all

theorem headV_of (s : ByteArray) (l0 : Int) (l1 : Bool) (l2 l3 l4 c q : Int) (h : refHV s.data.toList 0 s.size = .tuple #[.agg #[.int .i64 l0, .bool l1, .int .i64 l2, .int .i64 l3, .int .i64 l4], .int .i64 c, .int .i64 q]) :
    ((c == -1) = true ∧ headV s = .tuple #[.agg #[.int .i64 0, .bool false, .int .i64 0, .int .i64 0, .int .i64 0], .int .i64 20]) ∨ ((c == -1) = false ∧ headV s = .tuple #[.agg #[.int .i64 l0, .bool l1, .int .i64 l2, .int .i64 l3, .int .i64 l4], .int .i64 c]) := by
  unfold refHV at h
  unfold headV
  cases hh : hAt s.data.toList 0 s.size with
  | ok x =>
    rw [hh] at h
    simp [hdV] at h
    obtain ⟨⟨a0, a1, a2, a3, a4⟩, a5, _⟩ := h
    refine Or.inr ⟨by rw [← a5]; rfl, ?_⟩
    show Value.tuple #[hdV x, .int .i64 0] = _
    unfold hdV
    rw [a0, a1, a2, a3, a4, ← a5]
  | error o =>
    cases o with
    | some cq =>
      obtain ⟨a, b⟩ := cq
      rw [hh] at h
      simp [hdZ] at h
      obtain ⟨⟨a0, a1, a2, a3, a4⟩, a5, _⟩ := h
      refine Or.inr ⟨?_, ?_⟩
      · rw [← a5, beq_eq_false_iff_ne]; omega
      · show Value.tuple #[.agg hdZ.toArray, .int .i64 (a : Int)] = _
        rw [← a0, a1, ← a2, ← a3, ← a4, ← a5]; rfl
    | none =>
      rw [hh] at h
      simp [hdZ] at h
      obtain ⟨_, a5, _⟩ := h
      exact Or.inl ⟨by rw [← a5]; rfl, rfl⟩

theorem headV_tup (s : ByteArray) : ∃ (l0 : Int) (l1 : Bool) (l2 l3 l4 c : Int), headV s = .tuple #[.agg #[.int .i64 l0, .bool l1, .int .i64 l2, .int .i64 l3, .int .i64 l4], .int .i64 c] := by
  obtain ⟨l0, l1, l2, l3, l4, c, q, hv⟩ := refHV_tup s.data.toList 0 s.size
  rcases headV_of s l0 l1 l2 l3 l4 c q hv with ⟨_, hV⟩ | ⟨_, hV⟩
  · exact ⟨_, _, _, _, _, _, hV⟩
  · exact ⟨_, _, _, _, _, _, hV⟩

end Go.Proofs.YtkiidlnimjjnlaaDoor
