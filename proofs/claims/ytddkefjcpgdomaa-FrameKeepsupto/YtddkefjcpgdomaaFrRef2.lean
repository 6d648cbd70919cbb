import Derived.Test.YtddkefjcpgdomaaFrRef
namespace Go.Proofs.Ytddkefjcpgdomaa
open Go.RowKit
open FrMath (Hdr lb bd within Out ends cut Cut)

theorem furV_k (k : Nat) (k1 : 1 ≤ k) (k4 : k ≤ 4) : furV (128 + k) = (k : Int) := by
  unfold furV
  rw [if_neg (by omega), if_neg (by omega), if_neg (by omega)]
  omega

set_option maxRecDepth 100000 in
theorem refHead_any (lim : Int) (s : ByteArray) (w : World) :
    Calls Try.prog 25 #[.int .i64 lim, .string s] w fun r w' => r = .returned (rV (FrMath.look lim s.data.toList)) ∧ w = w' := by
  rcases FrMath.look_ways lim s.data.toList with ⟨h0, e⟩ | ⟨h0, h1, e⟩ | ⟨h0, h1, e⟩ | ⟨h0, h1, h2, e⟩ | ⟨h0, h1, h2, e⟩ | ⟨h0, h1, h2, e⟩ | ⟨h0, h1, k, k1, k4, h2, e⟩ <;> rw [e] <;> rw [size_l] at h0 <;> clear e
  · have d0 : ((s.size : Int) == 0) = true := by rw [beq_iff_eq]; omega
    clear h0
    go_enter Try.func25, Try.ntmps25
    go_wp2_with fail
    go_ret2
    exact ⟨rfl, rfl⟩
  · have d0 : ((s.size : Int) == 0) = false := by rw [beq_eq_false_iff_ne]; omega
    rw [lb_s s 0 h0] at h1
    have d1 : ((s[0].toNat : Int) != 48) = true := by simp; omega
    have p1 : (0 : Int) < (s.size : Int) := by omega
    clear h1
    go_enter Try.func25, Try.ntmps25
    go_wp2_with fail
    go_ret2
    exact ⟨rfl, rfl⟩
  all_goals
    have d0 : ((s.size : Int) == 0) = false := by rw [beq_eq_false_iff_ne]; omega
    have q0 : 0 < s.size := by omega
    rw [lb_s s 0 q0] at h1
    have d1 : ((s[0].toNat : Int) != 48) = false := by simp; omega
    clear h1
  · have d2 : ((s.size : Int) == 1) = true := by rw [beq_iff_eq]; omega
    clear h0
    go_enter Try.func25, Try.ntmps25
    go_wp2_with fail
    go_ret2
    exact ⟨rfl, rfl⟩
  all_goals
    have d2 : ((s.size : Int) == 1) = false := by rw [beq_eq_false_iff_ne]; omega
    have q1 : 1 < s.size := by omega
    have p2 : (1 : Int) < (s.size : Int) := by omega
    obtain ⟨l, hl⟩ : ∃ l, lb s.data.toList 1 = l := ⟨_, rfl⟩
    have hl256 : l < 256 := hl ▸ FrMath.lb_lt _ _
    rw [hl] at h2
    try rw [hl]
    rw [lb_s s 1 q1] at hl
    have hle : (s[1].toNat : Int) = (l : Int) := by omega
  · exact refHead_one lim s w q1 p2 q0 d0 d1 d2 l hl256 hle (by unfold furV; rw [if_pos h2])
  · exact refHead_end lim s w q1 p2 q0 d0 d1 d2 l hl256 hle _ rfl 31 (Or.inl ⟨by unfold furV; rw [if_neg (by omega), if_pos h2], rfl⟩)
  · exact refHead_end lim s w q1 p2 q0 d0 d1 d2 l hl256 hle _ rfl 32 (Or.inr ⟨by unfold furV; rw [if_neg (by omega), if_neg (by omega), if_pos h2], rfl⟩)
  · have hF : furV l = (k : Int) := by rw [h2]; exact furV_k k k1 k4
    rw [size_l]
    by_cases hk : s.size < 2 + k
    · have hz : 2 + k - s.size ≠ 0 := by omega
      rw [FrMath.within_m _ _ _ hz]
      have hr : rV ⟨2 + k - s.size, 2 + k + bd s.data.toList k, 0⟩ = .tuple #[.int .i64 0, .int .i64 0] := by unfold rV rW; rw [if_neg hz]; rfl
      rw [hr]
      exact refHead_miss lim s w q1 p2 q0 d0 d1 d2 l hl256 hle k k1 k4 hF hk
    · have hz : 2 + k - s.size = 0 := by omega
      rw [hz]
      exact refHead_long lim s w q1 p2 q0 d0 d1 d2 l hl256 hle k k1 k4 hF (by omega)

theorem bd_next0 (v : Nat) (hv : v < 16777216) : wrap64 ((v : Int) * 256) = ((v * 256 : Nat) : Int) := by unfold wrap64; omega
theorem bd_next1 (v b : Nat) (hv : v < 16777216) (hb : b < 256) : wrap64 (b : Int) = (b : Int) ∧ wrap64 (((v * 256 : Nat) : Int) + (b : Int)) = ((v * 256 + b : Nat) : Int) := by unfold wrap64; omega

set_option maxRecDepth 100000 in
set_option maxHeartbeats 400000 in
theorem refNeed_long (lim : Int) (s : ByteArray) (w : World) (q1 : 1 < s.size) (p2 : (1 : Int) < (s.size : Int)) (l : Nat) (hl : l < 256) (hle : (s[1].toNat : Int) = (l : Int)) (k : Nat) (k4 : k ≤ 4) (hF : furV l = (k : Int)) (hk : s.size < 2 + k)
    (hH : ∀ W, Calls Try.prog 25 #[.int .i64 lim, .string s] W fun r w' => r = .returned (.tuple #[.int .i64 0, .int .i64 0]) ∧ W = w') :
    Calls Try.prog 11 #[.int .i64 lim, .string s] w fun r w' => r = .returned (.int .i64 ((2 + k + bd s.data.toList k - s.size : Nat) : Int)) ∧ w = w' := by
  have hf := fun W => further_any l hl W
  rw [hF] at hf
  have d3 : decide ((s.size : Int) < 2) = false := decide_eq_false (by omega)
  obtain ⟨O, hO⟩ : ∃ O, 2 + k = O := ⟨_, rfl⟩
  have hw2 : wrap64 (2 + (k : Int)) = (O : Int) := by unfold wrap64; omega
  have hO6 : Hid (O ≤ 6 ∧ O = 2 + k) := by unfold Hid; omega
  have hbd := FrMath.bd_lt s.data.toList k k4
  have hN : Hid (∀ j, 2 + j < O → bd s.data.toList j < 16777216 ∧ 2 + j < 8) := fun j hj => ⟨bd_small _ _ (by omega), by omega⟩
  obtain ⟨M, hM⟩ : ∃ M, O - s.size = M := ⟨_, rfl⟩
  have hwM : wrap64 ((O : Int) - (s.size : Int)) = (M : Int) := by unfold wrap64; omega
  obtain ⟨Z, hZ⟩ : ∃ Z, O + bd s.data.toList k - s.size = Z := ⟨_, rfl⟩
  have hw3' : Hid (wrap64 ((M : Int) + (bd s.data.toList k : Int)) = (Z : Int)) := by unfold Hid wrap64; omega
  rw [hO, hZ]
  clear hF hl hO hZ hbd hM k4 hk
  go_enter Try.func11, Try.ntmps11
  go_wp2_with fail
  refine (hH _).mono ?_
  rintro r w1 ⟨rfl, rfl⟩
  go_wp2_with fail
  refine (hf _).mono ?_
  rintro r w1 ⟨rfl, rfl⟩
  go_wp2_with fail
  go_loopw [9, 10] (fun bv iv wr => ∃ (j : Nat), 2 + j ≤ O ∧ iv = .int .i64 ((2 + j : Nat) : Int) ∧ bv = .int .i64 (bd s.data.toList j : Int) ∧ w = wr) (fun _ iv _ => O - (intOf iv).toNat)
  case atStart => exact ⟨0, by have := hO6.out; omega, rfl, rfl, rfl⟩
  case round =>
    obtain ⟨j, hj, rfl, rfl, rfl⟩ := hrel
    by_cases hlt : 2 + j < O
    · obtain ⟨n1, n3⟩ := hN.out j hlt
      obtain ⟨v, hv⟩ : ∃ v, bd s.data.toList j = v := ⟨_, rfl⟩
      rw [hv] at n1 ⊢
      have hnx : Hid (2 + j + 1 = 2 + (j + 1)) := rfl
      have hjw : wrap64 (((2 + j : Nat) : Int) + 1) = ((2 + j + 1 : Nat) : Int) := w_next _ (by omega)
      have w2 := bd_next0 v n1
      by_cases n2 : 2 + j < s.size
      · have hst : Hid (bd s.data.toList (j + 1) = v * 256 + s[2 + j].toNat) := by unfold Hid; rw [← hv, ← lb_s s (2 + j) n2]; rfl
        obtain ⟨w1, w3⟩ := bd_next1 v s[2 + j].toNat n1 s[2 + j].toNat_lt
        generalize 2 + j = I at *
        obtain ⟨B, hB⟩ : ∃ B : Int, (s[I].toNat : Int) = B := ⟨_, rfl⟩
        rw [hB] at w1 w3
        obtain ⟨V, hV⟩ : ∃ V, v * 256 + s[I].toNat = V := ⟨_, rfl⟩
        rw [hV] at w3 hst
        obtain ⟨Y, hY⟩ : ∃ Y, v * 256 = Y := ⟨_, rfl⟩
        rw [hY] at w2 w3
        have j0 : (0 : Int) ≤ (I : Int) := Int.natCast_nonneg _
        have j1 : (I : Int) < (s.size : Int) := Int.ofNat_lt.2 n2
        have hjw' : Hid (wrap64 ((I : Int) + 1) = ((I + 1 : Nat) : Int)) := hjw
        have w3' : Hid (wrap64 ((Y : Int) + B) = (V : Int)) := w3
        have hlt' : Hid (I < O) := hlt
        clear hv hV hY n1 n3 hN hw3'
        go_wp2_with fail
        go_roundw
        case rel => exact ⟨j + 1, by rw [← hnx.out]; exact hlt'.out, by rw [hjw'.out, hnx.out], by rw [w3'.out, hst.out], trivial⟩
        case measure => exact meas_next O I hlt'.out hjw'.out
      · have hst : Hid (bd s.data.toList (j + 1) = v * 256) := by
          unfold Hid
          have h0 := FrMath.lb_out s.data.toList (2 + j) (by rw [size_l]; exact Nat.le_of_not_lt n2)
          show bd s.data.toList j * 256 + lb s.data.toList (2 + j) = _
          rw [h0, hv]; rfl
        generalize 2 + j = I at *
        obtain ⟨Y, hY⟩ : ∃ Y, v * 256 = Y := ⟨_, rfl⟩
        rw [hY] at w2 hst
        have hjw' : Hid (wrap64 ((I : Int) + 1) = ((I + 1 : Nat) : Int)) := hjw
        have hlt' : Hid (I < O) := hlt
        have w2' : Hid (wrap64 ((v : Int) * 256) = (Y : Int)) := w2
        clear hv hY n1 n3 hN hw3'
        go_wp2_with fail
        go_roundw
        case rel => exact ⟨j + 1, by rw [← hnx.out]; exact hlt'.out, by rw [hjw'.out, hnx.out], by rw [w2'.out, hst.out], trivial⟩
        case measure => exact meas_next O I hlt'.out hjw'.out
    · have hje : 2 + j = O := by omega
      have hjk : j = k := by have := hO6.out; omega
      subst hjk
      clear hN hO6
      generalize 2 + j = I at *
      subst hje
      go_wp2_with fail
      go_ret
      exact ⟨ret_int hw3'.out, rfl⟩
end Go.Proofs.Ytddkefjcpgdomaa
