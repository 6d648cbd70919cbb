import Derived.Test.YtgfonnjblbpogaaBRefJoin0
namespace Go.Proofs.Ytgfonnjblbpogaa
open Go.RowKit
open BerMath (lo be)

theorem push_byte_at (w : World) {ops : Array Oper} {rest : List Oper} {o : Oper} {a : Act} {Q : Exit → Act → World → Prop} (hgd : o.guard = none) (s x : Operand)
    (ho : o.op = .call { callee := .builtin .append, args := #[s, x], argTypes := #[50, 50] }) (B : Nat) (v : Value) (l : List UInt8) (c : UInt8) (g : Nat)
    (hs : a.eval s = v) (hx : a.eval x = .slice (some ⟨g, 0, none⟩) 1 1) (hg : g = w.heap.size) (hown : Own w B v l) (hB : B ≤ w.heap.size) (hl : l.length ≤ 1099511627776)
    (h : ∀ v' w', Own w' B v' (l ++ [c]) → Below B w w' → wpList Try.prog ops Q rest (a.put o.dst v') w') :
    wpList Try.prog ops Q (o :: rest) a (w.alloc (.cells #[.int .u8 (c.toNat : Int)] 5)) := by
  subst hg
  exact push_byte w hgd s x ho B v l c hs hx hown hB hl h
theorem w_sub1 (k : Nat) (h : k ≤ 4) : wrap64 ((k : Int) - 1) = (k : Int) - 1 := by unfold wrap64; omega
theorem meas_i (q : Nat) : (intOf (.int .i64 ((q : Int) - 1)) + 1).toNat < (intOf (.int .i64 (q : Int)) + 1).toNat := by
  show ((q : Int) - 1 + 1).toNat < ((q : Int) + 1).toNat
  omega
theorem div_small (n p : Nat) (h : n ≤ 4294967295) : n / p ≤ 4294967296 := Nat.le_trans (Nat.div_le_self _ _) (by omega)
theorem cast_1 (e : Nat) : (((e + 1 : Nat) : Int)) = (e : Int) + 1 := by omega
theorem meas_k2 (k j : Nat) (h : j < k) : k - (intOf (.int .i64 ((j : Int) + 1))).toNat < k - (intOf (.int .i64 (j : Int))).toNat := by
  rw [← cast_1]
  show k - (((j + 1 : Nat) : Int)).toNat < k - ((j : Nat) : Int).toNat
  rw [Int.toNat_natCast, Int.toNat_natCast]
  omega
theorem own_one (W : World) (B : Nat) (f : UInt8) (hB : B ≤ W.heap.size) : Own (W.alloc (.cells #[.int .u8 (f.toNat : Int)] 5)) B (.slice (some ⟨W.heap.size, 0, none⟩) 1 1) [f] :=
  ⟨rfl, Or.inr ⟨W.heap.size, 1, #[.int .u8 (f.toNat : Int)], rfl, hB, heap_alloc_new W _, Nat.le_refl _, by unfold maxLen; omega, rfl, rfl⟩⟩

theorem meas_k (k j : Nat) (h : j < k) (hw : wrap64 ((j : Int) + 1) = ((j + 1 : Nat) : Int)) : k - (intOf (.int .i64 (wrap64 ((j : Int) + 1)))).toNat < k - (intOf (.int .i64 (j : Int))).toNat := by
  rw [hw]
  show k - (((j + 1 : Nat) : Int)).toNat < k - ((j : Nat) : Int).toNat
  rw [Int.toNat_natCast, Int.toNat_natCast]
  omega
/-- The tag byte, as the reference reckons it. -/
theorem tag_nums (c t : Nat) (hc : c ≤ 3) (ht : t ≤ 30) : wrap64 ((c : Int) * 64) = ((c * 64 : Nat) : Int) ∧ wrap64 (((c * 64 : Nat) : Int) + (t : Int)) = ((c * 64 + t : Nat) : Int) ∧ wrap64 (((c * 64 + t : Nat) : Int) + 32) = ((c * 64 + t + 32 : Nat) : Int) := by
  unfold wrap64; omega
theorem tag_byte (c t : Nat) (m : Bool) (hc : c ≤ 3) (ht : t ≤ 30) : (m = false → IntKind.u8.wrap ((c * 64 + t : Nat) : Int) = ((fb c m t).toNat : Int)) ∧ (m = true → IntKind.u8.wrap ((c * 64 + t + 32 : Nat) : Int) = ((fb c m t).toNat : Int)) := by
  have h := fb_n c m t hc ht
  constructor
  · rintro rfl
    rw [u8_small _ (by omega), h]; simp
  · rintro rfl
    rw [u8_small _ (by omega), h]; simp; omega

set_option maxRecDepth 100000 in
set_option maxHeartbeats 1000000 in
theorem refHeader_any (c t : Nat) (m : Bool) (n : Nat) (w : World) (hc : c ≤ 3) (ht : t ≤ 30) (hn : n ≤ 4294967295) :
    Calls Try.prog 39 #[.int .i64 (c : Int), .bool m, .int .i64 (t : Int), .int .i64 (n : Int)] w fun r w' => ∃ v', r = .returned v' ∧ Own w' w.heap.size v' (fb c m t :: lenB n) ∧ Below w.heap.size w w' := by
  obtain ⟨h1, h2, h3⟩ := tag_nums c t hc ht
  obtain ⟨h4, h5⟩ := tag_byte c t m hc ht
  have hown := own_one w w.heap.size (fb c m t) (Nat.le_refl _)
  have HB : Below w.heap.size w (w.alloc (.cells #[.int .u8 ((fb c m t).toNat : Int)] 5)) := (Below.refl _ _).alloc (Nat.le_refl _) _
  obtain ⟨C, hC⟩ : ∃ C : Int, (c : Int) = C := ⟨_, rfl⟩
  obtain ⟨T, hT⟩ : ∃ T : Int, (t : Int) = T := ⟨_, rfl⟩
  obtain ⟨C6, hC6⟩ : ∃ C6 : Int, ((c * 64 : Nat) : Int) = C6 := ⟨_, rfl⟩
  obtain ⟨X, hX⟩ : ∃ X : Int, ((c * 64 + t : Nat) : Int) = X := ⟨_, rfl⟩
  obtain ⟨Y, hY⟩ : ∃ Y : Int, ((c * 64 + t + 32 : Nat) : Int) = Y := ⟨_, rfl⟩
  rw [hC, hC6] at h1
  rw [hC6, hT, hX] at h2
  rw [hX, hY] at h3
  rw [hX] at h4
  rw [hY] at h5
  rw [hC, hT]
  obtain ⟨f, hf⟩ : ∃ f, fb c m t = f := ⟨_, rfl⟩
  rw [hf] at h4 h5 hown HB
  rw [hf]
  clear hC hT hC6 hX hY hf
  by_cases hs : n < 128
  · have d1 : decide ((n : Int) < 128) = true := decide_eq_true (by omega)
    have hlb : Hid (lenB n = [lo (n : Int)]) := by unfold Hid lenB; rw [if_pos hs]
    have hw := lo_wrap (n : Int)
    clear hs hn hc ht
    generalize hZ : (n : Int) = Z at *
    clear hZ
    cases m
    · have h6 := h4 rfl
      clear h4 h5
      go_enter Try.func39, Try.ntmps39
      go_wp2_with (at_builtin; refine push_byte_at _ rfl _ _ rfl w.heap.size _ [f] (lo Z) _ rfl rfl ?_ ?_ ?_ ?_ ?_; (simp); (exact hown); (exact HB.size); (simp); intro v1 w1 hown1 hb1; replace HB := HB.trans hb1)
      go_ret
      exact ⟨_, rfl, by rw [hlb.out]; exact hown1, HB⟩
    · have h6 := h5 rfl
      clear h4 h5
      go_enter Try.func39, Try.ntmps39
      go_wp2_with (at_builtin; refine push_byte_at _ rfl _ _ rfl w.heap.size _ [f] (lo Z) _ rfl rfl ?_ ?_ ?_ ?_ ?_; (simp); (exact hown); (exact HB.size); (simp); intro v1 w1 hown1 hb1; replace HB := HB.trans hb1)
      go_ret
      exact ⟨_, rfl, by rw [hlb.out]; exact hown1, HB⟩
  have d1 : decide ((n : Int) < 128) = false := decide_eq_false (by omega)
  obtain ⟨hp1, hp2⟩ := ll_pow n hs hn
  have hlb : Hid (lenB n = UInt8.ofNat (128 + ll n) :: be (ll n) (n : Int)) := lenB_be n hs
  have hk4 : ll n ≤ 4 ∧ 1 ≤ ll n := by have := ll_cases n; omega
  obtain ⟨k, hk⟩ : ∃ k, ll n = k := ⟨_, rfl⟩
  rw [hk] at hp1 hp2 hlb hk4
  have hp1' : Hid (n < 256 ^ k) := hp1
  have hp2' : Hid (∀ j, 1 ≤ j → j < k → 256 ^ j ≤ n) := hp2
  have hk4' : Hid (k ≤ 4 ∧ 1 ≤ k) := hk4
  have hn' : Hid (n ≤ 4294967295) := hn
  have hkb := mk_n k hk4.1
  have hkw := w_128 k hk4.1
  clear hp1 hp2 hk4 hk hs hn hc ht
  cases m
  all_goals
    first | (have h6 := h4 rfl) | (have h6 := h5 rfl)
    clear h4 h5
    go_enter Try.func39, Try.ntmps39
    go_wp2_with fail
    go_loopw [11, 12] (fun kv pv wr => ∃ (j : Nat), 1 ≤ j ∧ j ≤ k ∧ kv = .int .i64 (j : Int) ∧ pv = .int .i64 ((256 ^ j : Nat) : Int) ∧ w.alloc (.cells #[.int .u8 (f.toNat : Int)] 5) = wr) (fun kv _ _ => k - (intOf kv).toNat)
    case atStart => exact ⟨1, Nat.le_refl _, hk4'.out.2, rfl, rfl, rfl⟩
    case round =>
      obtain ⟨j, hj1, hj2, rfl, rfl, rfl⟩ := hrel
      by_cases hlt : j < k
      · have hpj := hp2'.out j hj1 hlt
        have hP4 := pow_small j (Nat.le_trans hj2 hk4'.out.1)
        have hnx : Hid (256 ^ j * 256 = 256 ^ (j + 1)) := rfl
        have hwj := w_add1 j (Nat.le_trans (Nat.le_trans hj2 hk4'.out.1) (by decide))
        generalize 256 ^ j = P at *
        have hwm := w_mul P hP4
        have hlt' : Hid (j < k) := hlt
        have hwj' : Hid (wrap64 ((j : Int) + 1) = ((j + 1 : Nat) : Int)) := hwj
        have hwm' : Hid (wrap64 ((P : Int) * 256) = ((P * 256 : Nat) : Int)) := hwm
        clear hP4 hlt hwj hwm
        go_wp2_with fail
        go_roundw
        case rel => exact ⟨j + 1, Nat.le_succ_of_le hj1, hlt'.out, by rw [hwj'.out], by rw [hwm'.out, hnx.out], trivial⟩
        case measure => exact meas_k k j hlt'.out hwj'.out
      · have hjk : j = k := Nat.le_antisymm hj2 (Nat.le_of_not_lt hlt)
        subst hjk
        have hp := hp1'.out
        have hpn : ¬ 256 ^ j ≤ n := Nat.not_le_of_lt hp
        generalize 256 ^ j = P at hpn hp ⊢
        clear hp hp1' hp2' hlt
        go_wp2_with (at_builtin; refine push_byte_at _ rfl _ _ rfl w.heap.size _ [f] (UInt8.ofNat (128 + j)) _ rfl rfl ?_ ?_ ?_ ?_ ?_; (simp); (exact hown); (exact HB.size); (simp); intro v1 w1 hown1 hb1; replace HB := HB.trans hb1; clear hb1)
        have hj4 : (j : Int) ≤ 4 := Int.ofNat_le.2 hk4'.out.1
        have hj1' : (1 : Int) ≤ (j : Int) := Int.ofNat_le.2 hk4'.out.2
        go_loopw [10, 13] (fun bw iv wr => ∃ (q : Nat), q ≤ j ∧ iv = .int .i64 ((q : Int) - 1) ∧ Own wr w.heap.size bw (f :: UInt8.ofNat (128 + j) :: sofar n j q) ∧ Below w.heap.size w wr) (fun _ iv _ => (intOf iv + 1).toNat)
        case atStart => exact ⟨j, Nat.le_refl _, by rw [w_sub1 j hk4'.out.1], by rw [sofar_start]; exact hown1, HB⟩
        case round =>
          obtain ⟨q, hq, rfl, hown2, HB2⟩ := hrel
          clear hown1 HB hown
          cases q with
          | zero =>
            have hfin : Hid (Own wr w.heap.size u10 (f :: lenB n)) := by
              unfold Hid
              rw [hlb.out]
              rw [sofar_end] at hown2
              exact hown2
            clear hown2
            go_wp2_with fail
            go_ret
            exact ⟨_, rfl, hfin.out, HB2⟩
          | succ q =>
            have hki : (((q + 1 : Nat) : Int)) - 1 = (q : Int) := by omega
            rw [hki]
            have hq4 : q ≤ 4 := Nat.le_trans (Nat.le_of_succ_le hq) hk4'.out.1
            have q0 : (0 : Int) ≤ (q : Int) := Int.natCast_nonneg _
            have hqw' : Hid (wrap64 ((q : Int) - 1) = (q : Int) - 1) := w_sub1 q hq4
            obtain ⟨bl, hbl⟩ : ∃ bl, sofar n j (q + 1) = bl := ⟨_, rfl⟩
            rw [hbl] at hown2
            obtain ⟨hsn, hln⟩ := sofar_facts n j q bl f (UInt8.ofNat (128 + j)) hq hk4'.out.1 hbl
            have hqj : Hid (q ≤ j) := Nat.le_of_succ_le hq
            clear hki hq hbl
            go_wp2_with fail
            go_loopw [14, 15] (fun dw jv wr2 => ∃ (e : Nat), e ≤ q ∧ jv = .int .i64 (e : Int) ∧ dw = .int .i64 ((dv n e : Nat) : Int) ∧ wr = wr2) (fun _ jv _ => q - (intOf jv).toNat)
            case atStart => exact ⟨0, Nat.zero_le _, rfl, by rw [dv_zero], rfl⟩
            case round =>
              obtain ⟨e, he, rfl, rfl, rfl⟩ := hrel
              by_cases hlt : e < q
              · have hwe' : Hid (wrap64 ((e : Int) + 1) = ((e + 1 : Nat) : Int)) := w_add1 e (Nat.le_trans (Nat.le_trans he hq4) (by decide))
                have htd : ((dv n e : Nat) : Int).tdiv 256 = ((dv n (e + 1) : Nat) : Int) := by rw [tdiv_n, dv_next]
                have hwd : wrap64 ((dv n (e + 1) : Nat) : Int) = ((dv n (e + 1) : Nat) : Int) := w_n _ (dv_small n (e + 1) hn'.out)
                have hlt' : Hid (e < q) := hlt
                obtain ⟨D, hD⟩ : ∃ D : Int, ((dv n e : Nat) : Int) = D := ⟨_, rfl⟩
                obtain ⟨D2, hD2⟩ : ∃ D2 : Int, ((dv n (e + 1) : Nat) : Int) = D2 := ⟨_, rfl⟩
                rw [hD, hD2] at htd
                rw [hD2] at hwd
                rw [hD]
                have hD2' : Hid (((dv n (e + 1) : Nat) : Int) = D2) := hD2
                have hwd' : Hid (wrap64 D2 = D2) := hwd
                clear hD hD2 hown2 hln hsn
                go_wp2_with fail
                go_roundw
                case rel => exact ⟨e + 1, hlt'.out, by rw [cast_1], by rw [hD2'.out, hwd'.out], trivial⟩
                case measure => exact meas_k2 q e hlt'.out
              · have heq : e = q := Nat.le_antisymm he (Nat.le_of_not_lt hlt)
                subst heq
                have htm := tmod_lo (dv n e)
                obtain ⟨D, hD⟩ : ∃ D : Int, ((dv n e : Nat) : Int) = D := ⟨_, rfl⟩
                rw [hD] at htm hsn
                rw [hD]
                clear hD
                go_wp2_with (at_builtin; refine push_byte _ rfl _ _ rfl w.heap.size _ (f :: UInt8.ofNat (128 + j) :: bl) (lo D) rfl rfl ?_ ?_ ?_ ?_; (exact hown2); (exact HB2.size); (exact hln.out); intro v3 w3 hown3 hb3)
                go_roundw
                case rel => exact ⟨e, hqj.out, rfl, by rw [hsn.out]; exact hown3, HB2.trans hb3⟩
                case measure => exact meas_i e
end Go.Proofs.Ytgfonnjblbpogaa
