import Derived.Test.YtgfonnjblbpogaaBRefHead
import Derived.Test.YtgfonnjblbpogaaBWhole
namespace Go.Proofs.Ytgfonnjblbpogaa
open Go.RowKit
open BerMath (Hd HR num hAt wAt)

/-- What the reference's whole answers. -/
def refWV (b : List UInt8) (p e : Nat) : Value :=
  match wAt b p e with
  | .ok h => .tuple #[hdV h, .int .i64 0, .int .i64 (p : Int)]
  | .error (some (c, q)) => .tuple #[.agg hdZ.toArray, .int .i64 (c : Int), .int .i64 (q : Int)]
  | .error none => .tuple #[.agg hdZ.toArray, .int .i64 (-1), .int .i64 (e : Int)]

theorem hAt_er (b : List UInt8) (p e c q : Nat) (h : hAt b p e = HR.er c q) : c = 21 ∨ c = 22 ∨ c = 23 := by
  unfold hAt at h
  split at h
  · cases h
  split at h
  · have h1 := (BerMath.er_inj h).1; omega
  split at h
  · cases h
  split at h
  · have h1 := (BerMath.er_inj h).1; omega
  split at h
  · have h1 := (BerMath.er_inj h).1; omega
  split at h
  · cases h
  split at h
  · cases h
  · cases h

/-- The ways through it: no header; a header whose content isn't there; a whole element. -/
theorem refW_cases (b : List UInt8) (p e : Nat) :
    (∃ (c q : Int), (c == 0) = false ∧ refHV b p e = .tuple #[.agg #[.int .i64 0, .bool false, .int .i64 0, .int .i64 0, .int .i64 0], .int .i64 c, .int .i64 q] ∧ refWV b p e = .tuple #[.agg #[.int .i64 0, .bool false, .int .i64 0, .int .i64 0, .int .i64 0], .int .i64 c, .int .i64 q]) ∨
    (∃ h, hAt b p e = .ok h ∧ refHV b p e = .tuple #[hdV h, .int .i64 0, .int .i64 (p : Int)] ∧ e < p + h.size + h.len ∧ refWV b p e = .tuple #[.agg #[.int .i64 0, .bool false, .int .i64 0, .int .i64 0, .int .i64 0], .int .i64 (-1), .int .i64 (e : Int)]) ∨
    (∃ h, hAt b p e = .ok h ∧ refHV b p e = .tuple #[hdV h, .int .i64 0, .int .i64 (p : Int)] ∧ ¬ e < p + h.size + h.len ∧ refWV b p e = .tuple #[hdV h, .int .i64 0, .int .i64 (p : Int)]) := by
  unfold refHV refWV wAt
  cases hh : hAt b p e with
  | ok h =>
    by_cases h1 : e < p + (h.size + h.len)
    · refine Or.inr (Or.inl ⟨h, rfl, rfl, by omega, ?_⟩)
      simp only [if_pos h1]; rfl
    · refine Or.inr (Or.inr ⟨h, rfl, rfl, by omega, ?_⟩)
      simp only [if_neg h1]
  | error o =>
    cases o with
    | some cq =>
      obtain ⟨c, q⟩ := cq
      have hc := hAt_er _ _ _ _ _ hh
      exact Or.inl ⟨(c : Int), (q : Int), by rw [beq_eq_false_iff_ne]; omega, rfl, rfl⟩
    | none => exact Or.inl ⟨-1, (e : Int), rfl, rfl, rfl⟩

theorem w_pq (p x : Nat) (hp : p ≤ 140737488355328) (hx : x ≤ 6) : wrap64 ((p : Int) + (x : Int)) = ((p + x : Nat) : Int) := by unfold wrap64; omega
theorem w_pqr (p x y : Nat) (hp : p ≤ 140737488355328) (hx : x ≤ 6) (hy : y < 4294967296) : wrap64 (((p + x : Nat) : Int) + (y : Int)) = ((p + x + y : Nat) : Int) := by unfold wrap64; omega

set_option maxHeartbeats 1000000 in
theorem refWhole_any (s : ByteArray) (p e : Nat) (w : World) (he : e ≤ s.size) (hm : s.size ≤ 140737488355328) (hp : p ≤ e) :
    Calls Try.prog 51 #[.string s, .int .i64 (p : Int), .int .i64 (e : Int)] w fun r w' => r = .returned (refWV s.data.toList p e) ∧ Below w.heap.size w w' := by
  have hH : ∀ W, Hid (Calls Try.prog 62 #[.string s, .int .i64 (p : Int), .int .i64 (e : Int)] W fun r w' => r = .returned (refHV s.data.toList p e) ∧ Below W.heap.size W w') := fun W => refHeadAt_any s p e W he hm hp
  have hpm : p ≤ 140737488355328 := Nat.le_trans hp (Nat.le_trans he hm)
  have hz : ∀ w', Below (w.heap.size + 1) (w.alloc (.cells #[.int .i64 0, .bool false, .int .i64 0, .int .i64 0, .int .i64 0] 29)) w' → Cells w' w.heap.size hdZ := fun w' hb => by
    have h0 : Cells (w.alloc (.cells #[.int .i64 0, .bool false, .int .i64 0, .int .i64 0, .int .i64 0] 29)) w.heap.size hdZ := by
      intro j hj
      have : j = 0 ∨ j = 1 ∨ j = 2 ∨ j = 3 ∨ j = 4 := by simp [hdZ] at hj; omega
      rcases this with rfl | rfl | rfl | rfl | rfl <;> simp [go_sem, hdZ]
    exact h0.of_block (hb.block _ (Nat.lt_succ_self _))
  have key : ∀ (l0 : Int) (l1 : Bool) (l2 l3 l4 c q : Int) (dd : Bool) (A E : Int) (m0 : Int) (m1 : Bool) (m2 m3 m4 c' q' : Int),
      refHV s.data.toList p e = .tuple #[.agg #[.int .i64 l0, .bool l1, .int .i64 l2, .int .i64 l3, .int .i64 l4], .int .i64 c, .int .i64 q] →
      ((c == 0) = false ∧ m0 = l0 ∧ m1 = l1 ∧ m2 = l2 ∧ m3 = l3 ∧ m4 = l4 ∧ c' = c ∧ q' = q ∨ c = 0 ∧ wrap64 ((p : Int) + l4) = A ∧ wrap64 (A + l3) = E ∧ decide ((e : Int) < E) = dd ∧ (dd = true ∧ m0 = 0 ∧ m1 = false ∧ m2 = 0 ∧ m3 = 0 ∧ m4 = 0 ∧ c' = -1 ∧ q' = (e : Int) ∨ dd = false ∧ m0 = l0 ∧ m1 = l1 ∧ m2 = l2 ∧ m3 = l3 ∧ m4 = l4 ∧ c' = c ∧ q' = q)) →
      Calls Try.prog 51 #[.string s, .int .i64 (p : Int), .int .i64 (e : Int)] w fun r w' => r = .returned (.tuple #[.agg #[.int .i64 m0, .bool m1, .int .i64 m2, .int .i64 m3, .int .i64 m4], .int .i64 c', .int .i64 q']) ∧ Below w.heap.size w w' := by
    intro l0 l1 l2 l3 l4 c q dd A E m0 m1 m2 m3 m4 c' q' hv hc
    rw [hv] at hH
    clear hv he hm hp hpm
    rcases hc with ⟨hc0, rfl, rfl, rfl, rfl, rfl, rfl, rfl⟩ | ⟨rfl, hA, hE, hd, ⟨rfl, rfl, rfl, rfl, rfl, rfl, rfl, rfl⟩ | ⟨rfl, rfl, rfl, rfl, rfl, rfl, rfl, rfl⟩⟩
    all_goals
      go_enter Try.func51, Try.ntmps51
      go_wp2_with fail
      refine (hH _).out.mono ?_
      rintro r w1 ⟨rfl, hb⟩
      have hb' : Below (w.heap.size + 1) (w.alloc (.cells #[.int .i64 0, .bool false, .int .i64 0, .int .i64 0, .int .i64 0] 29)) w1 := by simpa using hb
      have hrb := hz w1 hb'
      have r0 : w1.cell? ⟨w.heap.size, 0, none⟩ = some (.int .i64 0) := (hrb 0 (by simp [hdZ])).1
      have r1 : w1.cell? ⟨w.heap.size, 1, none⟩ = some (.bool false) := (hrb 1 (by simp [hdZ])).1
      have r2 : w1.cell? ⟨w.heap.size, 2, none⟩ = some (.int .i64 0) := (hrb 2 (by simp [hdZ])).1
      have r3 : w1.cell? ⟨w.heap.size, 3, none⟩ = some (.int .i64 0) := (hrb 3 (by simp [hdZ])).1
      have r4 : w1.cell? ⟨w.heap.size, 4, none⟩ = some (.int .i64 0) := (hrb 4 (by simp [hdZ])).1
      have z0 : w1.frozen? ⟨w.heap.size, 0, none⟩ = false := (hrb 0 (by simp [hdZ])).2
      have z1 : w1.frozen? ⟨w.heap.size, 1, none⟩ = false := (hrb 1 (by simp [hdZ])).2
      have z2 : w1.frozen? ⟨w.heap.size, 2, none⟩ = false := (hrb 2 (by simp [hdZ])).2
      have z3 : w1.frozen? ⟨w.heap.size, 3, none⟩ = false := (hrb 3 (by simp [hdZ])).2
      have z4 : w1.frozen? ⟨w.heap.size, 4, none⟩ = false := (hrb 4 (by simp [hdZ])).2
      have n1 : w.heap.size < w1.heap.size := by have := hb'.size; simp at this; omega
      have HB : Below w.heap.size w w1 := ((Below.refl _ _).alloc (Nat.le_refl _) _).trans (hb'.mono (Nat.le_succ _))
      clear hrb hb hb' hH hz
      go_wp2_with fail
      refine bodyPost_ret_by (by
        simp [results, Try.results51, go_sem, r0, r1, r2, r3, r4, n1]) rfl ⟨rfl, ?_⟩
      refine Below.alloc (Below.setCell (Below.setCell (Below.setCell (Below.setCell (Below.setCell HB ?_ _) ?_ _) ?_ _) ?_ _) ?_ _) (by simp only [World.size_setCell]; exact Nat.le_of_lt n1) _
      all_goals exact Nat.le_refl _
  rcases refW_cases s.data.toList p e with ⟨c, q, h1, h2, h3⟩ | ⟨h, h0, h2, h4, h3⟩ | ⟨h, h0, h2, h4, h3⟩
  · rw [h3]
    exact key _ _ _ _ _ c q false 0 0 _ _ _ _ _ _ _ h2 (Or.inl ⟨h1, rfl, rfl, rfl, rfl, rfl, rfl, rfl⟩)
  · rw [h3]
    obtain ⟨k1, k2, k3, _⟩ := BerMath.hAt_ok _ _ _ _ h0
    exact key _ _ _ _ _ 0 (p : Int) true _ _ _ _ _ _ _ _ _ h2 (Or.inr ⟨rfl, w_pq p h.size hpm k2, w_pqr p h.size h.len hpm k2 k3, decide_eq_true (by omega), Or.inl ⟨rfl, rfl, rfl, rfl, rfl, rfl, rfl, rfl⟩⟩)
  · rw [h3]
    obtain ⟨k1, k2, k3, _⟩ := BerMath.hAt_ok _ _ _ _ h0
    exact key _ _ _ _ _ 0 (p : Int) false _ _ _ _ _ _ _ _ _ h2 (Or.inr ⟨rfl, w_pq p h.size hpm k2, w_pqr p h.size h.len hpm k2 k3, decide_eq_false (by omega), Or.inr ⟨rfl, rfl, rfl, rfl, rfl, rfl, rfl, rfl⟩⟩)
end Go.Proofs.Ytgfonnjblbpogaa
