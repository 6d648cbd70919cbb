import Derived.Test.YtddkefjcpgdomaaFr3
namespace Go.Proofs.Ytddkefjcpgdomaa
open Go.RowKit
open FrMath (Hdr lb bd within Out ends cut Cut)

def furV (c : Nat) : Int := if c < 128 then 0 else if c = 128 then -1 else if 132 < c then -2 else (c : Int) - 128
theorem further_any (c : Nat) (hc : c < 256) (w : World) :
    Calls Try.prog 26 #[.int .u8 (c : Int)] w fun r w' => r = .returned (.int .i64 (furV c)) ∧ w = w' := by
  have hw : wrap64 (c : Int) = (c : Int) := by unfold wrap64; omega
  unfold furV
  by_cases h1 : c < 128
  · rw [if_pos h1]
    have d1 : decide ((c : Int) < 128) = true := decide_eq_true (by omega)
    clear h1 hw
    go_enter Try.func26, Try.ntmps26
    go_wp2
    go_ret
    exact ⟨rfl, rfl⟩
  rw [if_neg h1]
  have d1 : decide ((c : Int) < 128) = false := decide_eq_false (by omega)
  by_cases h2 : c = 128
  · rw [if_pos h2]
    have d2 : ((c : Int) == 128) = true := by rw [beq_iff_eq]; omega
    clear h1 h2 hw
    go_enter Try.func26, Try.ntmps26
    go_wp2
    go_ret
    exact ⟨rfl, rfl⟩
  rw [if_neg h2]
  have d2 : ((c : Int) == 128) = false := by rw [beq_eq_false_iff_ne]; omega
  by_cases h3 : 132 < c
  · rw [if_pos h3]
    have d3 : decide ((132 : Int) < (c : Int)) = true := decide_eq_true (by omega)
    clear h1 h2 h3 hw
    go_enter Try.func26, Try.ntmps26
    go_wp2
    go_ret
    exact ⟨rfl, rfl⟩
  rw [if_neg h3]
  have d3 : decide ((132 : Int) < (c : Int)) = false := decide_eq_false (by omega)
  have hw2 : wrap64 ((c : Int) - 128) = (c : Int) - 128 := by unfold wrap64; omega
  clear h1 h2 h3
  go_enter Try.func26, Try.ntmps26
  go_wp2
  go_ret
  exact ⟨rfl, rfl⟩

/-- The bytes of the whole message, 0 if the header is not whole. -/
def rW (h : Hdr) : Nat := if h.mi = 0 then h.sz else 0
abbrev rV (h : Hdr) : Value := .tuple #[.int .i64 (rW h : Int), .int .i64 (h.er : Int)]

theorem ret_pair {a b : Int} (v : Value) (h : a = b) : Ending.returned (.tuple #[.int .i64 a, v]) = .returned (.tuple #[.int .i64 b, v]) := by rw [h]

theorem refHead_end (lim : Int) (s : ByteArray) (w : World) (q1 : 1 < s.size) (p2 : (1 : Int) < (s.size : Int)) (q0 : 0 < s.size) (d0 : ((s.size : Int) == 0) = false) (d1 : ((s[0].toNat : Int) != 48) = false) (d2 : ((s.size : Int) == 1) = false)
    (l : Nat) (hl : l < 256) (hle : (s[1].toNat : Int) = (l : Int)) (F : Int) (hF : furV l = F) (c : Nat) (h3 : (F = -1 ∧ c = 31) ∨ (F = -2 ∧ c = 32)) :
    Calls Try.prog 25 #[.int .i64 lim, .string s] w fun r w' => r = .returned (.tuple #[.int .i64 0, .int .i64 (c : Int)]) ∧ w = w' := by
  have hf := fun W => further_any l hl W
  rw [hF] at hf
  clear hF hl
  rcases h3 with ⟨rfl, rfl⟩ | ⟨rfl, rfl⟩
  · go_enter Try.func25, Try.ntmps25
    go_wp2_with fail
    refine (hf _).mono ?_
    rintro r w1 ⟨rfl, rfl⟩
    go_wp2_with fail
    go_ret2
    exact ⟨rfl, rfl⟩
  · go_enter Try.func25, Try.ntmps25
    go_wp2_with fail
    refine (hf _).mono ?_
    rintro r w1 ⟨rfl, rfl⟩
    go_wp2_with fail
    go_ret2
    exact ⟨rfl, rfl⟩

set_option maxRecDepth 100000 in
set_option maxHeartbeats 400000 in
theorem refHead_one (lim : Int) (s : ByteArray) (w : World) (q1 : 1 < s.size) (p2 : (1 : Int) < (s.size : Int)) (q0 : 0 < s.size) (d0 : ((s.size : Int) == 0) = false) (d1 : ((s[0].toNat : Int) != 48) = false) (d2 : ((s.size : Int) == 1) = false)
    (l : Nat) (hl : l < 256) (hle : (s[1].toNat : Int) = (l : Int)) (hF : furV l = 0) :
    Calls Try.prog 25 #[.int .i64 lim, .string s] w fun r w' => r = .returned (rV (within lim 0 (2 + l))) ∧ w = w' := by
  have hf := fun W => further_any l hl W
  rw [hF] at hf
  have hw : wrap64 (l : Int) = (l : Int) := by unfold wrap64; omega
  obtain ⟨V, hV⟩ : ∃ V, 2 + l = V := ⟨_, rfl⟩
  have hw2 : wrap64 (2 + (l : Int)) = (V : Int) := by unfold wrap64; omega
  have d3 : decide ((s.size : Int) < 2) = false := decide_eq_false (by omega)
  rw [hV]
  clear hF hl hV
  by_cases h2 : lim < (V : Int)
  · have e : within lim 0 V = ⟨0, 0, 33⟩ := by unfold FrMath.within; rw [if_pos ⟨rfl, h2⟩]
    rw [e]
    clear e
    go_enter Try.func25, Try.ntmps25
    go_wp2_with fail
    refine (hf _).mono ?_
    rintro r w1 ⟨rfl, rfl⟩
    go_wp2_with fail
    go_loopw [7, 8] (fun bv iv wr => iv = .int .i64 2 ∧ bv = .int .i64 (l : Int) ∧ w = wr) (fun _ _ _ => 0)
    case atStart => exact ⟨rfl, by rw [hw], rfl⟩
    case round =>
      obtain ⟨rfl, rfl, rfl⟩ := hrel
      go_wp2_with fail
      go_ret2
      exact ⟨rfl, rfl⟩
  · have e : within lim 0 V = ⟨0, V, 0⟩ := by unfold FrMath.within; rw [if_neg (fun hh => h2 hh.2)]
    rw [e]
    clear e
    go_enter Try.func25, Try.ntmps25
    go_wp2_with fail
    refine (hf _).mono ?_
    rintro r w1 ⟨rfl, rfl⟩
    go_wp2_with fail
    go_loopw [7, 8] (fun bv iv wr => iv = .int .i64 2 ∧ bv = .int .i64 (l : Int) ∧ w = wr) (fun _ _ _ => 0)
    case atStart => exact ⟨rfl, by rw [hw], rfl⟩
    case round =>
      obtain ⟨rfl, rfl, rfl⟩ := hrel
      go_wp2_with fail
      go_ret2
      exact ⟨ret_pair _ hw2, rfl⟩

theorem refHead_miss (lim : Int) (s : ByteArray) (w : World) (q1 : 1 < s.size) (p2 : (1 : Int) < (s.size : Int)) (q0 : 0 < s.size) (d0 : ((s.size : Int) == 0) = false) (d1 : ((s[0].toNat : Int) != 48) = false) (d2 : ((s.size : Int) == 1) = false)
    (l : Nat) (hl : l < 256) (hle : (s[1].toNat : Int) = (l : Int)) (k : Nat) (k1 : 1 ≤ k) (k4 : k ≤ 4) (hF : furV l = (k : Int)) (hk : s.size < 2 + k) :
    Calls Try.prog 25 #[.int .i64 lim, .string s] w fun r w' => r = .returned (.tuple #[.int .i64 0, .int .i64 0]) ∧ w = w' := by
  have hf := fun W => further_any l hl W
  rw [hF] at hf
  have f1 : ((k : Int) == -1) = false := by rw [beq_eq_false_iff_ne]; omega
  have f2 : ((k : Int) == -2) = false := by rw [beq_eq_false_iff_ne]; omega
  obtain ⟨O, hO⟩ : ∃ O, 2 + k = O := ⟨_, rfl⟩
  have hw2 : wrap64 (2 + (k : Int)) = (O : Int) := by unfold wrap64; omega
  rw [hO] at hk
  clear hF hl hO k1 k4
  go_enter Try.func25, Try.ntmps25
  go_wp2_with fail
  refine (hf _).mono ?_
  rintro r w1 ⟨rfl, rfl⟩
  go_wp2_with fail
  go_ret2
  exact ⟨rfl, rfl⟩

theorem bd_next (v b : Nat) (hv : v < 16777216) (hb : b < 256) : wrap64 (b : Int) = (b : Int) ∧ wrap64 ((v : Int) * 256) = (v : Int) * 256 ∧ wrap64 ((v : Int) * 256 + (b : Int)) = ((v * 256 + b : Nat) : Int) := by
  unfold wrap64; omega
theorem bd_small (b : List UInt8) (j : Nat) (h : j < 4) : bd b j < 16777216 := by
  have h2 := FrMath.lb_lt b 2
  have h3 := FrMath.lb_lt b (2 + 1)
  have h4 := FrMath.lb_lt b (2 + 2)
  have : j = 0 ∨ j = 1 ∨ j = 2 ∨ j = 3 := by omega
  rcases this with rfl | rfl | rfl | rfl <;> simp only [bd, Nat.add_zero] <;> omega
theorem w_next (a : Nat) (h : a ≤ 140737488355328) : wrap64 ((a : Int) + 1) = ((a + 1 : Nat) : Int) := by unfold wrap64; omega
theorem meas_next (a I : Nat) (h : I < a) (hw : wrap64 ((I : Int) + 1) = ((I + 1 : Nat) : Int)) : a - (intOf (.int .i64 (wrap64 ((I : Int) + 1)))).toNat < a - (intOf (.int .i64 (I : Int))).toNat := by
  rw [hw]
  show a - (((I + 1 : Nat) : Int)).toNat < a - ((I : Nat) : Int).toNat
  rw [Int.toNat_natCast, Int.toNat_natCast]
  omega

set_option maxRecDepth 100000 in
set_option maxHeartbeats 400000 in
theorem refHead_long (lim : Int) (s : ByteArray) (w : World) (q1 : 1 < s.size) (p2 : (1 : Int) < (s.size : Int)) (q0 : 0 < s.size) (d0 : ((s.size : Int) == 0) = false) (d1 : ((s[0].toNat : Int) != 48) = false) (d2 : ((s.size : Int) == 1) = false)
    (l : Nat) (hl : l < 256) (hle : (s[1].toNat : Int) = (l : Int)) (k : Nat) (k1 : 1 ≤ k) (k4 : k ≤ 4) (hF : furV l = (k : Int)) (hk : 2 + k ≤ s.size) :
    Calls Try.prog 25 #[.int .i64 lim, .string s] w fun r w' => r = .returned (rV (within lim 0 (2 + k + bd s.data.toList k))) ∧ w = w' := by
  have hf := fun W => further_any l hl W
  rw [hF] at hf
  have f1 : ((k : Int) == -1) = false := by rw [beq_eq_false_iff_ne]; omega
  have f2 : ((k : Int) == -2) = false := by rw [beq_eq_false_iff_ne]; omega
  have f3 : ((k : Int) == 0) = false := by rw [beq_eq_false_iff_ne]; omega
  obtain ⟨O, hO⟩ : ∃ O, 2 + k = O := ⟨_, rfl⟩
  have hw2 : wrap64 (2 + (k : Int)) = (O : Int) := by unfold wrap64; omega
  have hO6 : Hid (O ≤ 6 ∧ O = 2 + k) := by unfold Hid; omega
  rw [hO] at hk
  have hbd := FrMath.bd_lt s.data.toList k k4
  have hN : Hid (∀ j, 2 + j < O → bd s.data.toList j < 16777216 ∧ 2 + j < s.size ∧ 2 + j < 8) := fun j hj => ⟨bd_small _ _ (by omega), by omega, by omega⟩
  obtain ⟨Z, hZ⟩ : ∃ Z, O + bd s.data.toList k = Z := ⟨_, rfl⟩
  have hw3 : wrap64 ((O : Int) + (bd s.data.toList k : Int)) = (Z : Int) := by unfold wrap64; omega
  have hw3' : Hid (wrap64 ((O : Int) + (bd s.data.toList k : Int)) = (Z : Int)) := hw3
  rw [hO, hZ]
  have hR : Hid (∃ q e : Nat, rV (within lim 0 Z) = .tuple #[.int .i64 (q : Int), .int .i64 (e : Int)] ∧ ((lim < (Z : Int) ∧ q = 0 ∧ e = 33) ∨ (¬ lim < (Z : Int) ∧ q = Z ∧ e = 0))) := by
    unfold Hid FrMath.within
    by_cases h2 : lim < (Z : Int)
    · rw [if_pos ⟨rfl, h2⟩]; exact ⟨0, 33, rfl, Or.inl ⟨h2, rfl, rfl⟩⟩
    · rw [if_neg (fun hh => h2 hh.2)]; exact ⟨Z, 0, rfl, Or.inr ⟨h2, rfl, rfl⟩⟩
  clear hF hl hO hZ hbd k1 k4 hw3
  go_enter Try.func25, Try.ntmps25
  go_wp2_with fail
  refine (hf _).mono ?_
  rintro r w1 ⟨rfl, rfl⟩
  go_wp2_with fail
  go_loopw [7, 8] (fun bv iv wr => ∃ (j : Nat), 2 + j ≤ O ∧ iv = .int .i64 ((2 + j : Nat) : Int) ∧ bv = .int .i64 (bd s.data.toList j : Int) ∧ w = wr) (fun _ iv _ => O - (intOf iv).toNat)
  case atStart => exact ⟨0, by have := hO6.out; omega, rfl, rfl, rfl⟩
  case round =>
    obtain ⟨j, hj, rfl, rfl, rfl⟩ := hrel
    by_cases hlt : 2 + j < O
    · obtain ⟨n1, n2, n3⟩ := hN.out j hlt
      obtain ⟨v, hv⟩ : ∃ v, bd s.data.toList j = v := ⟨_, rfl⟩
      have hst : Hid (bd s.data.toList (j + 1) = v * 256 + s[2 + j].toNat) := by unfold Hid; rw [← hv, ← lb_s s (2 + j) n2]; rfl
      rw [hv] at n1 ⊢
      obtain ⟨w1, w2, w3⟩ := bd_next v s[2 + j].toNat n1 s[2 + j].toNat_lt
      have hnx : Hid (2 + j + 1 = 2 + (j + 1)) := rfl
      have hjw : wrap64 (((2 + j : Nat) : Int) + 1) = ((2 + j + 1 : Nat) : Int) := w_next _ (by omega)
      generalize 2 + j = I at *
      obtain ⟨B, hB⟩ : ∃ B : Int, (s[I].toNat : Int) = B := ⟨_, rfl⟩
      rw [hB] at w1 w3
      obtain ⟨V, hV⟩ : ∃ V, v * 256 + s[I].toNat = V := ⟨_, rfl⟩
      rw [hV] at w3 hst
      have j0 : (0 : Int) ≤ (I : Int) := Int.natCast_nonneg _
      have j1 : (I : Int) < (s.size : Int) := Int.ofNat_lt.2 n2
      have hjw' : Hid (wrap64 ((I : Int) + 1) = ((I + 1 : Nat) : Int)) := hjw
      have w3' : Hid (wrap64 ((v : Int) * 256 + B) = (V : Int)) := w3
      have hlt' : Hid (I < O) := hlt
      clear hv hV n1 n3 hN hR hw3'
      go_wp2_with fail
      go_roundw
      case rel => exact ⟨j + 1, by rw [← hnx.out]; exact hlt'.out, by rw [hjw'.out, hnx.out], by rw [w3'.out, hst.out], trivial⟩
      case measure => exact meas_next O I hlt'.out hjw'.out
    · have hje : 2 + j = O := by omega
      have hjk : j = k := by have := hO6.out; omega
      subst hjk
      have hw3 := hw3'.out
      obtain ⟨q, e, hqe, hor⟩ := hR.out
      replace hqe : Hid (rV (within lim 0 Z) = .tuple #[.int .i64 (q : Int), .int .i64 (e : Int)]) := hqe
      clear hN hR hO6 hw3'
      generalize 2 + j = I at *
      subst hje
      rcases hor with ⟨h1, rfl, rfl⟩ | ⟨h1, rfl, rfl⟩
      · go_wp2_with fail
        go_ret2
        exact ⟨by rw [hqe.out]; rfl, rfl⟩
      · have hw3' : Hid (wrap64 ((I : Int) + (bd s.data.toList j : Int)) = (q : Int)) := hw3
        go_wp2_with fail
        go_ret2
        exact ⟨by rw [hqe.out]; exact ret_pair _ hw3'.out, rfl⟩
end Go.Proofs.Ytddkefjcpgdomaa
