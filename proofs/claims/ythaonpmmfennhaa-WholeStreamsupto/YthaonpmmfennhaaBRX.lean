import Derived.Test.YthaonpmmfennhaaBHead4
import Derived.Deep.DeepCutAuto
import Derived.Laws.StructEq
namespace Go.Proofs.Ythaonpmmfennhaa
open Go.RowKit
open BerMath (Hd HR num hAt)

theorem round_nums (v b : Nat) (hv : v < 16777216) (hb : b < 256) : wrap64 (b : Int) = (b : Int) ∧ wrap64 ((v : Int) * 256) = (v : Int) * 256 ∧ wrap64 ((v : Int) * 256 + (b : Int)) = (v : Int) * 256 + (b : Int) := by
  unfold wrap64; omega
theorem meas_down (a I : Nat) (h : I < a) (hw : wrap64 ((I : Int) + 1) = ((I + 1 : Nat) : Int)) : a - (intOf (.int .i64 (wrap64 ((I : Int) + 1)))).toNat < a - (intOf (.int .i64 (I : Int))).toNat := by
  rw [hw]
  show a - (((I + 1 : Nat) : Int)).toNat < a - ((I : Nat) : Int).toNat
  rw [Int.toNat_natCast, Int.toNat_natCast]
  omega
theorem wrap_next (a : Nat) (h : a ≤ 140737488355328) : wrap64 ((a : Int) + 1) = ((a + 1 : Nat) : Int) := by unfold wrap64; omega
theorem cast_step (x v b : Nat) (h : x = v * 256 + b) : (x : Int) = (v : Int) * 256 + (b : Int) := by omega
theorem num_step (s : ByteArray) (q j : Nat) (h : q + j < s.size) : num 0 ((s.data.toList.drop q).take (j + 1)) = num 0 ((s.data.toList.drop q).take j) * 256 + s[q + j].toNat := by
  rw [drop_snoc s q j h, BerMath.num_snoc]
theorem num_small (s : ByteArray) (q j : Nat) (hj : j < 4) : num 0 ((s.data.toList.drop q).take j) < 16777216 := by
  have h := BerMath.num_lt ((s.data.toList.drop q).take j)
  have hl : ((s.data.toList.drop q).take j).length ≤ 3 := by rw [List.length_take]; omega
  have : 256 ^ ((s.data.toList.drop q).take j).length ≤ 256 ^ 3 := Nat.pow_le_pow_right (by decide) hl
  have e : (256 : Nat) ^ 3 = 16777216 := by decide
  omega

end Go.Proofs.Ythaonpmmfennhaa

namespace Go.Proofs.Ythaonpmmfennhaa
open Go.RowKit
open BerMath (Hd HR num hAt)

/-- What the reference's headAt answers. -/
def refHV (b : List UInt8) (p e : Nat) : Value :=
  match hAt b p e with
  | .ok h => .tuple #[hdV h, .int .i64 0, .int .i64 (p : Int)]
  | .error (some (c, q)) => .tuple #[.agg hdZ.toArray, .int .i64 (c : Int), .int .i64 (q : Int)]
  | .error none => .tuple #[.agg hdZ.toArray, .int .i64 (-1), .int .i64 (e : Int)]

theorem w_nat (n : Nat) (h : n < 256) : wrap64 (n : Int) = (n : Int) := by unfold wrap64; omega
theorem w_p1 (p : Nat) (h : p ≤ 140737488355328) : wrap64 ((p : Int) + 1) = (p : Int) + 1 := by unfold wrap64; omega
theorem w_p2 (p : Nat) (h : p ≤ 140737488355328) : Hid (wrap64 ((p : Int) + 2) = ((p + 2 : Nat) : Int)) := by unfold Hid wrap64; omega
theorem w_X (l : Nat) (h : l < 256) : wrap64 (2 + (l : Int)) = 2 + (l : Int) := by unfold wrap64; omega
theorem w_Z (l k : Nat) (h : l = 128 + k) (h2 : l < 256) : wrap64 (2 + (l : Int) - 128) = ((k + 2 : Nat) : Int) := by unfold wrap64; omega
theorem w_Q (p k : Nat) (h : p ≤ 140737488355328) (h2 : k ≤ 4) : wrap64 ((p : Int) + ((k + 2 : Nat) : Int)) = ((p + 2 + k : Nat) : Int) := by unfold wrap64; omega

theorem refHV_tup (b : List UInt8) (p e : Nat) : ∃ (l0 : Int) (l1 : Bool) (l2 l3 l4 c q : Int), refHV b p e = .tuple #[.agg #[.int .i64 l0, .bool l1, .int .i64 l2, .int .i64 l3, .int .i64 l4], .int .i64 c, .int .i64 q] := by
  unfold refHV
  cases hAt b p e with
  | ok h => exact ⟨_, _, _, _, _, _, _, rfl⟩
  | error o =>
    cases o with
    | some cq =>
      obtain ⟨c, q⟩ := cq
      exact ⟨0, false, 0, 0, 0, _, _, rfl⟩
    | none => exact ⟨0, false, 0, 0, 0, _, _, rfl⟩
end Go.Proofs.Ythaonpmmfennhaa

namespace Go.Proofs.Ythaonpmmfennhaa
open Go.RowKit
open BerMath (Hd HR num hAt)

theorem eq_hdr (l0 : Int) (l1 : Bool) (l2 l3 l4 : Int) (m0 : Int) (m1 : Bool) (m2 m3 m4 : Int) (W : World) :
    (binOp .eql 65 (.agg #[.int .i64 l0, .bool l1, .int .i64 l2, .int .i64 l3, .int .i64 l4]) (.agg #[.int .i64 m0, .bool m1, .int .i64 m2, .int .i64 m3, .int .i64 m4])).run Try.prog W = .ok (.bool ((l0 == m0) && (l1 == m1) && (l2 == m2) && (l3 == m3) && (l4 == m4))) W := by
  have hS : Try.prog.underlying 65 = some (.struct (Try.prog.fieldsOf 65)) := by kernel_rfl
  have hp : Try.prog.stoodInHeld 65 = false := by kernel_rfl
  rw [run_eql_struct, run_equalIn_struct _ _ _ _ _ hS hp]
  simp only [Program.fieldsOf, Try.underlying65]
  simp [Op.eqFields, go_sem]
  by_cases h0 : l0 = m0 <;> by_cases h1 : l1 = m1 <;> by_cases h2 : l2 = m2 <;> by_cases h3 : l3 = m3 <;> by_cases h4 : l4 = m4 <;> simp_all

theorem headV_of (s : ByteArray) (l0 : Int) (l1 : Bool) (l2 l3 l4 c q : Int) (h : refHV s.data.toList 0 s.size = .tuple #[.agg #[.int .i64 l0, .bool l1, .int .i64 l2, .int .i64 l3, .int .i64 l4], .int .i64 c, .int .i64 q]) :
    ((c == -1) = true ∧ headV s = .tuple #[.agg #[.int .i64 0, .bool false, .int .i64 0, .int .i64 0, .int .i64 0], .int .i64 20]) ∨ ((c == -1) = false ∧ headV s = .tuple #[.agg #[.int .i64 l0, .bool l1, .int .i64 l2, .int .i64 l3, .int .i64 l4], .int .i64 c]) := by
  unfold refHV at h
  unfold headV
  cases hh : hAt s.data.toList 0 s.size with
  | ok x =>
    rw [hh] at h
    simp [hdV] at h
    obtain ⟨⟨a0, a1, a2, a3, a4⟩, a5, _⟩ := h
    refine Or.inr ⟨by rw [← a5]; rfl, ?_⟩
    show Value.tuple #[hdV x, .int .i64 0] = _
    unfold hdV
    rw [a0, a1, a2, a3, a4, ← a5]
  | error o =>
    cases o with
    | some cq =>
      obtain ⟨a, b⟩ := cq
      rw [hh] at h
      simp [hdZ] at h
      obtain ⟨⟨a0, a1, a2, a3, a4⟩, a5, _⟩ := h
      refine Or.inr ⟨?_, ?_⟩
      · rw [← a5, beq_eq_false_iff_ne]; omega
      · show Value.tuple #[.agg hdZ.toArray, .int .i64 (a : Int)] = _
        rw [← a0, a1, ← a2, ← a3, ← a4, ← a5]; rfl
    | none =>
      rw [hh] at h
      simp [hdZ] at h
      obtain ⟨_, a5, _⟩ := h
      exact Or.inl ⟨by rw [← a5]; rfl, rfl⟩

theorem headV_tup (s : ByteArray) : ∃ (l0 : Int) (l1 : Bool) (l2 l3 l4 c : Int), headV s = .tuple #[.agg #[.int .i64 l0, .bool l1, .int .i64 l2, .int .i64 l3, .int .i64 l4], .int .i64 c] := by
  obtain ⟨l0, l1, l2, l3, l4, c, q, hv⟩ := refHV_tup s.data.toList 0 s.size
  rcases headV_of s l0 l1 l2 l3 l4 c q hv with ⟨_, hV⟩ | ⟨_, hV⟩
  · exact ⟨_, _, _, _, _, _, hV⟩
  · exact ⟨_, _, _, _, _, _, hV⟩

end Go.Proofs.Ythaonpmmfennhaa
