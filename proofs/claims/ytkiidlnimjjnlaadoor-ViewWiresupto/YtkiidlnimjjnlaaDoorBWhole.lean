import Derived.Test.YtkiidlnimjjnlaaDoorBHead3
namespace Go.Proofs.YtkiidlnimjjnlaaDoor
open Go.RowKit
open BerMath (Hd HR num hAt)

namespace BerMath
/-- The element that begins at p, its content too: rules 2 to 7. -/
def wAt (b : List UInt8) (p e : Nat) : HR :=
  match hAt b p e with
  | .ok h => if e < p + (h.size + h.len) then HR.miss else .ok h
  | .error (some (c, q)) => HR.er c q
  | .error none => HR.miss
theorem num_lt4 (l : List UInt8) (h : l.length ≤ 4) : num 0 l < 4294967296 := by
  have h1 := num_lt l
  have : 256 ^ l.length ≤ 256 ^ 4 := Nat.pow_le_pow_right (by decide) h
  have e : (256 : Nat) ^ 4 = 4294967296 := by decide
  omega
theorem hAt_ok (b : List UInt8) (p e : Nat) (h : Hd) (hh : hAt b p e = .ok h) : 2 ≤ h.size ∧ h.size ≤ 6 ∧ h.len < 4294967296 ∧ h.cls ≤ 3 ∧ h.tag ≤ 30 ∧ p + 2 ≤ e := by
  unfold hAt at hh
  have hb := (b.getD p 0).toNat_lt
  split at hh
  · cases hh
  split at hh
  · cases hh
  split at hh
  · cases hh
  split at hh
  · cases hh
  split at hh
  · cases hh
  split at hh
  · injection hh with hh
    subst hh
    refine ⟨Nat.le_refl _, by show 2 ≤ 6; omega, ?_, ?_, ?_, by omega⟩
    · show (b.getD (p + 1) 0).toNat < 4294967296; omega
    · show (b.getD p 0).toNat / 64 ≤ 3; omega
    · show (b.getD p 0).toNat % 32 ≤ 30; omega
  split at hh
  · cases hh
  · injection hh with hh
    have l1 : h.len = num 0 ((b.drop (p + 2)).take ((b.getD (p + 1) 0).toNat - 128)) := by rw [← hh]
    have l2 : h.size = (b.getD (p + 1) 0).toNat - 126 := by rw [← hh]
    have l3 : h.cls = (b.getD p 0).toNat / 64 := by rw [← hh]
    have l4 : h.tag = (b.getD p 0).toNat % 32 := by rw [← hh]
    have l5 := num_lt4 ((b.drop (p + 2)).take ((b.getD (p + 1) 0).toNat - 128)) (by rw [List.length_take]; omega)
    rw [← l1] at l5
    clear hh l1
    refine ⟨by omega, by omega, l5, by omega, by omega, by omega⟩
end BerMath
open BerMath (wAt)

/-- What reading a whole element ends in. -/
def wholeR (b : List UInt8) (p e : Nat) (m : Int) : Ending :=
  match wAt b p e with
  | .ok h => .returned (hdV h)
  | .error (some (c, q)) => gaveUp c q
  | .error none => gaveUp m e

theorem whole_cases (b : List UInt8) (p e : Nat) (m : Int) :
    (∃ c q, headR b p e m = gaveUp c q ∧ wholeR b p e m = gaveUp c q) ∨
    (∃ h, hAt b p e = .ok h ∧ headR b p e m = .returned (hdV h) ∧ e < p + (h.size + h.len) ∧ wholeR b p e m = gaveUp m e) ∨
    (∃ h, hAt b p e = .ok h ∧ headR b p e m = .returned (hdV h) ∧ ¬ e < p + (h.size + h.len) ∧ wholeR b p e m = .returned (hdV h)) := by
  unfold headR wholeR wAt
  cases hAt b p e with
  | ok h =>
    by_cases h1 : e < p + (h.size + h.len)
    · refine Or.inr (Or.inl ⟨h, rfl, rfl, h1, ?_⟩)
      simp only [if_pos h1]
    · refine Or.inr (Or.inr ⟨h, rfl, rfl, h1, ?_⟩)
      simp only [if_neg h1]
  | error o =>
    cases o with
    | some cq =>
      obtain ⟨c, q⟩ := cq
      exact Or.inl ⟨_, _, rfl, rfl⟩
    | none => exact Or.inl ⟨_, _, rfl, rfl⟩

theorem w_sum (x y : Nat) (hx : x ≤ 6) (hy : y < 4294967296) : wrap64 ((x : Int) + (y : Int)) = ((x + y : Nat) : Int) := by unfold wrap64; omega
theorem need_dec (e p n : Nat) : decide ((e : Int) - (p : Int) < (n : Int)) = decide (e < p + n) := by
  rw [decide_eq_decide]; omega
theorem w_dif (e p : Nat) (h : e ≤ 281474976710656) (hp : p ≤ e) : wrap64 ((e : Int) - (p : Int)) = (e : Int) - (p : Int) := by unfold wrap64; omega

set_option maxHeartbeats 1000000 in
theorem whole_any (s : ByteArray) (e p : Nat) (m : Int) (w : World) (he : e ≤ s.size) (hm : s.size ≤ 281474976710656) (hp : p ≤ e) :
    Calls Tryd.prog 74 #[strV s (e : Int) m, .int .i64 (p : Int)] w fun r w' => r = wholeR s.data.toList p e m ∧ Below w.heap.size w w' := by
  have hH : ∀ W, Hid (Calls Tryd.prog 75 #[strV s (e : Int) m, .int .i64 (p : Int)] W fun r w' => r = headR s.data.toList p e m ∧ Below W.heap.size W w') := fun W => header_any s e p m W he hm hp
  have hsub := w_dif e p (Nat.le_trans he hm) hp
  rcases whole_cases s.data.toList p e m with ⟨c, q, h1, h2⟩ | ⟨h, h0, h1, h3, h2⟩ | ⟨h, h0, h1, h3, h2⟩
  · rw [h2]
    rw [h1] at hH
    clear h1 h2 he hm hp
    go_enter Tryd.func74, Tryd.ntmps74
    go_wp2_with fail
    refine (hH _).out.mono ?_
    rintro r w1 ⟨rfl, hb⟩
    refine ⟨rfl, rfl, ?_⟩
    exact (((Below.refl _ _).alloc (Nat.le_refl _) _).alloc (by simp) _).trans (hb.mono (by simp; omega))
  all_goals
    obtain ⟨k1, k2, k3, _⟩ := BerMath.hAt_ok _ _ _ _ h0
    have hw := w_sum h.size h.len k2 k3
    have hd := need_dec e p (h.size + h.len)
    rw [h2]
    rw [h1] at hH
    have hv : hdV h = .agg #[.int .i64 (h.cls : Int), .bool h.made, .int .i64 (h.tag : Int), .int .i64 (h.len : Int), .int .i64 (h.size : Int)] := rfl
    rw [hv] at hH
    obtain ⟨N, hN⟩ : ∃ N : Int, ((h.size + h.len : Nat) : Int) = N := ⟨_, rfl⟩
    rw [hN] at hw hd
    first | rw [decide_eq_true h3] at hd | rw [decide_eq_false h3] at hd
    clear h1 h2 h3 he hm hp k1 k2 k3 hN h0
    go_enter Tryd.func74, Tryd.ntmps74
    go_wp2_with fail
    refine (hH _).out.mono ?_
    rintro r w1 ⟨rfl, hb⟩
    have b0 : w1.cell? ⟨w.heap.size, 0, none⟩ = some (.string s) := by rw [hb.cell (by simp; omega)]; simp [go_sem]
    have b1 : w1.cell? ⟨w.heap.size, 1, none⟩ = some (.int .i64 (e : Int)) := by rw [hb.cell (by simp; omega)]; simp [go_sem]
    have b2 : w1.cell? ⟨w.heap.size, 2, none⟩ = some (.int .i64 m) := by rw [hb.cell (by simp; omega)]; simp [go_sem]
    have c0 : w1.cell? ⟨w.heap.size + 1, 0, none⟩ = some (.int .i64 0) := by rw [hb.cell (by simp)]; simp [go_sem]
    have c1 : w1.cell? ⟨w.heap.size + 1, 1, none⟩ = some (.bool false) := by rw [hb.cell (by simp)]; simp [go_sem]
    have c2 : w1.cell? ⟨w.heap.size + 1, 2, none⟩ = some (.int .i64 0) := by rw [hb.cell (by simp)]; simp [go_sem]
    have c3 : w1.cell? ⟨w.heap.size + 1, 3, none⟩ = some (.int .i64 0) := by rw [hb.cell (by simp)]; simp [go_sem]
    have c4 : w1.cell? ⟨w.heap.size + 1, 4, none⟩ = some (.int .i64 0) := by rw [hb.cell (by simp)]; simp [go_sem]
    have f0 : w1.frozen? ⟨w.heap.size + 1, 0, none⟩ = false := by rw [hb.frozen (by simp)]; simp [go_sem]
    have f1 : w1.frozen? ⟨w.heap.size + 1, 1, none⟩ = false := by rw [hb.frozen (by simp)]; simp [go_sem]
    have f2 : w1.frozen? ⟨w.heap.size + 1, 2, none⟩ = false := by rw [hb.frozen (by simp)]; simp [go_sem]
    have f3 : w1.frozen? ⟨w.heap.size + 1, 3, none⟩ = false := by rw [hb.frozen (by simp)]; simp [go_sem]
    have f4 : w1.frozen? ⟨w.heap.size + 1, 4, none⟩ = false := by rw [hb.frozen (by simp)]; simp [go_sem]
    have n1 : w.heap.size + 1 < w1.heap.size := by have := hb.size; simp at this; omega
    have n0 : w.heap.size < w1.heap.size := by omega
    have HB : Below w.heap.size w w1 := (((Below.refl _ _).alloc (Nat.le_refl _) _).alloc (by simp) _).trans (hb.mono (by simp; omega))
    clear hb
    go_wp2_with fail
    first
      | (refine (need_bad _ _ _ _ _ _ hd hsub).mono ?_
         rintro r w2 ⟨rfl, rfl⟩
         refine ⟨rfl, rfl, ?_⟩
         exact (HB.alloc (Nat.le_of_lt n0) _).alloc (by simp; omega) _)
      | (refine (need_ok _ _ _ _ _ _ hd hsub).mono ?_
         rintro r w2 ⟨rfl, rfl⟩
         go_wp2_with fail
         refine bodyPost_ret_by (v := .agg #[.int .i64 (h.cls : Int), .bool h.made, .int .i64 (h.tag : Int), .int .i64 (h.len : Int), .int .i64 (h.size : Int)]) ?_ rfl ⟨rfl, ?_⟩
         · simp [results, Tryd.results74, go_sem, c0, c1, c2, c3, c4, n0, n1]
         · refine Below.alloc (Below.alloc (Below.setCell (Below.setCell (Below.setCell (Below.setCell (Below.setCell HB ?_ _) ?_ _) ?_ _) ?_ _) ?_ _) (by simp only [World.size_setCell]; omega) _) (by simp only [World.size_alloc, World.size_setCell]; omega) _
           all_goals exact Nat.le_succ _)
end Go.Proofs.YtkiidlnimjjnlaaDoor
