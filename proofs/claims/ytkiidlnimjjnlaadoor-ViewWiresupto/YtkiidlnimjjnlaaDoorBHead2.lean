import Derived.Test.YtkiidlnimjjnlaaDoorBHead1
namespace Go.Proofs.YtkiidlnimjjnlaaDoor
open Go.RowKit
open BerMath (Hd HR num hAt)

/-- A header as a value. -/
def hdV (h : Hd) : Value := .agg #[.int .i64 (h.cls : Int), .bool h.made, .int .i64 (h.tag : Int), .int .i64 (h.len : Int), .int .i64 (h.size : Int)]
/-- What reading a header ends in. -/
def headR (b : List UInt8) (p e : Nat) (m : Int) : Ending :=
  match hAt b p e with
  | .ok h => .returned (hdV h)
  | .error (some (c, q)) => gaveUp c q
  | .error none => gaveUp m e

theorem and31 (n : Nat) (h : n < 256) : bits .and .u8 (n : Int) 31 = ((n % 32 : Nat) : Int) := by
  have e := u8_and_nat n 31 h (by omega)
  rw [show (31 : Int) = ((31 : Nat) : Int) from rfl, e]
  congr 1
  have := Nat.and_two_pow_sub_one_eq_mod n 5
  simpa using this
theorem and32 (n : Nat) (h : n < 256) : bits .and .u8 (n : Int) 32 = ((n / 32 % 2 * 32 : Nat) : Int) := by
  have e := u8_and_nat n 32 h (by omega)
  rw [show (32 : Int) = ((32 : Nat) : Int) from rfl, e]
  congr 1
  have : ∀ n : Fin 256, n.val &&& 32 = n.val / 32 % 2 * 32 := by decide +kernel
  exact this ⟨n, h⟩

/-- A length's ending, told by the ending of the header. -/
theorem len_parts (b : List UInt8) (p e : Nat) (m : Int) (hp : p < e) (ht : ¬ (b.getD p 0).toNat % 32 = 31) :
    (∃ c q, lenR b p e m = gaveUp c q ∧ headR b p e m = gaveUp c q) ∨
    (∃ len size : Nat, lenR b p e m = .returned (.tuple #[.int .i64 (len : Int), .int .i64 (size : Int)]) ∧ headR b p e m = .returned (hdV ⟨(b.getD p 0).toNat / 64, decide ((b.getD p 0).toNat / 32 % 2 = 1), (b.getD p 0).toNat % 32, len, size⟩)) := by
  unfold lenR headR hAt
  rw [if_neg (by omega : ¬ e ≤ p), if_neg ht]
  by_cases h1 : e ≤ p + 1
  · rw [if_pos h1, if_pos h1]
    exact Or.inl ⟨_, _, rfl, rfl⟩
  rw [if_neg h1, if_neg h1]
  by_cases h2 : (b.getD (p + 1) 0).toNat = 128
  · rw [if_pos h2, if_pos h2]
    exact Or.inl ⟨_, _, rfl, rfl⟩
  rw [if_neg h2, if_neg h2]
  by_cases h3 : 132 < (b.getD (p + 1) 0).toNat
  · rw [if_pos h3, if_pos h3]
    exact Or.inl ⟨_, _, rfl, rfl⟩
  rw [if_neg h3, if_neg h3]
  by_cases h4 : (b.getD (p + 1) 0).toNat < 128
  · rw [if_pos h4, if_pos h4]
    exact Or.inr ⟨_, 2, rfl, rfl⟩
  rw [if_neg h4, if_neg h4]
  by_cases h5 : e < p + ((b.getD (p + 1) 0).toNat - 126)
  · rw [if_pos h5, if_pos h5]
    exact Or.inl ⟨_, _, rfl, rfl⟩
  rw [if_neg h5, if_neg h5]
  exact Or.inr ⟨_, _, rfl, rfl⟩

set_option maxRecDepth 100000 in
set_option maxHeartbeats 1000000 in
theorem header_any (s : ByteArray) (e p : Nat) (m : Int) (w : World) (he : e ≤ s.size) (hm : s.size ≤ 281474976710656) (hp : p ≤ e) :
    Calls Tryd.prog 75 #[strV s (e : Int) m, .int .i64 (p : Int)] w fun r w' => r = headR s.data.toList p e m ∧ Below w.heap.size w w' := by
  have hsub : wrap64 ((e : Int) - (p : Int)) = (e : Int) - (p : Int) := by unfold wrap64; omega
  have p0 : (0 : Int) ≤ (p : Int) := by omega
  by_cases h1 : e ≤ p
  · have hr : headR s.data.toList p e m = gaveUp m e := by unfold headR hAt; rw [if_pos h1]
    rw [hr]
    have d1 : decide ((e : Int) - (p : Int) < 1) = true := decide_eq_true (by omega)
    clear h1 hp he hm hr
    go_enter Tryd.func75, Tryd.ntmps75
    go_wp2_with fail
    refine (need_bad _ _ _ _ _ _ d1 hsub).mono ?_
    rintro r w1 ⟨rfl, rfl⟩
    exact ⟨rfl, rfl, (((Below.refl _ _).alloc (Nat.le_refl _) _).alloc (by simp) _).alloc (by simp; omega) _⟩
  have d1 : decide ((e : Int) - (p : Int) < 1) = false := decide_eq_false (by omega)
  have hps : p < s.size := by omega
  have g0 := getD_s s p hps
  have p1 : (p : Int) < (s.size : Int) := by omega
  obtain ⟨t, ht⟩ : ∃ t, s[p].toNat = t := ⟨_, rfl⟩
  have ht256 : t < 256 := by rw [← ht]; exact s[p].toNat_lt
  have ha31 : bits .and .u8 (s[p].toNat : Int) 31 = ((t % 32 : Nat) : Int) := by rw [ht]; exact and31 t ht256
  by_cases h2 : t % 32 = 31
  · have hr : headR s.data.toList p e m = gaveUp 21 p := by unfold headR hAt; rw [if_neg h1, g0, ht, if_pos h2]; rfl
    rw [hr]
    have d2 : (((t % 32 : Nat) : Int) == 31) = true := by rw [beq_iff_eq]; omega
    clear h1 hp he hm hr h2
    go_enter Tryd.func75, Tryd.ntmps75
    go_wp2_with fail
    refine (need_ok _ _ _ _ _ _ d1 hsub).mono ?_
    rintro r w1 ⟨rfl, rfl⟩
    go_wp2_with fail
    exact ⟨rfl, rfl, (((Below.refl _ _).alloc (Nat.le_refl _) _).alloc (by simp) _).alloc (by simp; omega) _⟩
  have d2 : (((t % 32 : Nat) : Int) == 31) = false := by rw [beq_eq_false_iff_ne]; omega
  have hlen : ∀ W, Hid (Calls Tryd.prog 77 #[strV s (e : Int) m, .int .i64 (p : Int)] W fun r w' => r = lenR s.data.toList p e m ∧ Below W.heap.size W w') := fun W => length_any s e p m W he hm (by omega)
  rcases len_parts s.data.toList p e m (by omega) (by rw [g0, ht]; exact h2) with ⟨c, q, hl, hr⟩ | ⟨len, size, hl, hr⟩
  · rw [hr]
    rw [hl] at hlen
    clear h1 hp he hm hr h2 hl
    go_enter Tryd.func75, Tryd.ntmps75
    go_wp2_with fail
    refine (need_ok _ _ _ _ _ _ d1 hsub).mono ?_
    rintro r w1 ⟨rfl, rfl⟩
    go_wp2_with fail
    refine (hlen _).out.mono ?_
    rintro r w1 ⟨rfl, hb⟩
    refine ⟨rfl, rfl, ?_⟩
    exact ((((Below.refl _ _).alloc (Nat.le_refl _) _).alloc (by simp) _).alloc (by simp; omega) _).trans (hb.mono (by simp; omega))
  · rw [hr]
    rw [hl] at hlen
    rw [g0, ht]
    have ha32 : bits .and .u8 (t : Int) 32 = ((t / 32 % 2 * 32 : Nat) : Int) := and32 t ht256
    have hmd' : Hid ((((t / 32 % 2 * 32 : Nat) : Int) != 0) = decide (t / 32 % 2 = 1)) := by
      unfold Hid
      rcases Nat.mod_two_eq_zero_or_one (t / 32) with h | h <;> rw [h] <;> rfl
    clear h1 hp he hm hr h2 hl
    go_enter Tryd.func75, Tryd.ntmps75
    go_wp2_with fail
    refine (need_ok _ _ _ _ _ _ d1 hsub).mono ?_
    rintro r w1 ⟨rfl, rfl⟩
    go_wp2_with fail
    refine (hlen _).out.mono ?_
    rintro r w1 ⟨rfl, hb⟩
    have c0 : w1.cell? ⟨w.heap.size + 1, 0, none⟩ = some (.int .i64 0) := by rw [hb.cell (by simp)]; simp [go_sem]
    have f0 : w1.frozen? ⟨w.heap.size + 1, 0, none⟩ = false := by rw [hb.frozen (by simp)]; simp [go_sem]
    have c1 : w1.cell? ⟨w.heap.size + 1, 1, none⟩ = some (.bool false) := by rw [hb.cell (by simp)]; simp [go_sem]
    have f1 : w1.frozen? ⟨w.heap.size + 1, 1, none⟩ = false := by rw [hb.frozen (by simp)]; simp [go_sem]
    have c2 : w1.cell? ⟨w.heap.size + 1, 2, none⟩ = some (.int .i64 0) := by rw [hb.cell (by simp)]; simp [go_sem]
    have f2 : w1.frozen? ⟨w.heap.size + 1, 2, none⟩ = false := by rw [hb.frozen (by simp)]; simp [go_sem]
    have c3 : w1.cell? ⟨w.heap.size + 1, 3, none⟩ = some (.int .i64 0) := by rw [hb.cell (by simp)]; simp [go_sem]
    have f3 : w1.frozen? ⟨w.heap.size + 1, 3, none⟩ = false := by rw [hb.frozen (by simp)]; simp [go_sem]
    have c4 : w1.cell? ⟨w.heap.size + 1, 4, none⟩ = some (.int .i64 0) := by rw [hb.cell (by simp)]; simp [go_sem]
    have f4 : w1.frozen? ⟨w.heap.size + 1, 4, none⟩ = false := by rw [hb.frozen (by simp)]; simp [go_sem]
    go_wp2_with fail
    refine bodyPost_ret_by (v := .agg #[.int .i64 ((t : Int) / 64), .bool ((t : Int) / 32 % 2 * 32 != 0), .int .i64 ((t : Int) % 32), .int .i64 (len : Int), .int .i64 (size : Int)]) ?_ rfl ⟨?_, ?_⟩
    · simp [results, Tryd.results75, go_sem, c0, c1, c2, c3, c4]
    · unfold hdV
      have e1 : (t : Int) / 64 = ((t / 64 : Nat) : Int) := by omega
      have e2 : (t : Int) % 32 = ((t % 32 : Nat) : Int) := by omega
      have e3 : ((t : Int) / 32 % 2 * 32 != 0) = decide (t / 32 % 2 = 1) := by rw [← hmd'.out]; congr 1
      rw [e1, e2, e3]
    · exact ((((((((Below.refl _ _).alloc (Nat.le_refl _) _).alloc (by simp) _).alloc (by simp; omega) _).trans (hb.mono (by simp; omega))).setCell (by simp) _).setCell (by simp) _).setCell (by simp) _).setCell (by simp) _ |>.setCell (by simp) _
end Go.Proofs.YtkiidlnimjjnlaaDoor
