import Derived.Test.YtddkefjcpgdomaaFrWrap
import Derived.Test.YtddkefjcpgdomaaFrAsk
namespace Go.Proofs.Ytddkefjcpgdomaa
open Go.RowKit
open FrMath (Hdr lb bd within Out ends cut Cut)

theorem wrap_any (form : Int) (s : ByteArray) (h : s.size ≤ 4096) :
    ∃ k, okHd k s.size ∧ ∀ w, Calls Try.prog 13 #[.int .i64 form, .string s] w fun r w' => r = .returned (.string (S (hd k s.size) ++ s)) ∧ Below w.heap.size w w' := by
  by_cases hneg : form < 0
  · have d1 : decide (form < 0) = true := decide_eq_true hneg
    by_cases h1 : s.size ≤ 127
    · exact ⟨0, by unfold okHd; omega, fun w => wrap_neg_0 form s w d1 h1⟩
    by_cases h2 : s.size ≤ 255
    · exact ⟨1, by unfold okHd; omega, fun w => wrap_neg_1 form s w d1 (by omega) h2⟩
    · exact ⟨2, by unfold okHd; omega, fun w => wrap_neg_2 form s w d1 (by omega) h⟩
  have d1 : decide (form < 0) = false := decide_eq_false hneg
  by_cases hbig : 4 < form
  · have d2 : decide (4 < form) = true := decide_eq_true hbig
    by_cases h1 : s.size ≤ 127
    · exact ⟨0, by unfold okHd; omega, fun w => wrap_big_0 form s w d1 d2 h1⟩
    by_cases h2 : s.size ≤ 255
    · exact ⟨1, by unfold okHd; omega, fun w => wrap_big_1 form s w d1 d2 (by omega) h2⟩
    · exact ⟨2, by unfold okHd; omega, fun w => wrap_big_2 form s w d1 d2 (by omega) h⟩
  have : form = 0 ∨ form = 1 ∨ form = 2 ∨ form = 3 ∨ form = 4 := by omega
  rcases this with rfl | rfl | rfl | rfl | rfl
  · by_cases h1 : s.size ≤ 127
    · exact ⟨0, by unfold okHd; omega, fun w => wrap_0_0 s w h1⟩
    by_cases h2 : s.size ≤ 255
    · exact ⟨1, by unfold okHd; omega, fun w => wrap_0_1 s w (by omega) h2⟩
    · exact ⟨2, by unfold okHd; omega, fun w => wrap_0_2 s w (by omega) h⟩
  · by_cases h2 : s.size ≤ 255
    · exact ⟨1, by unfold okHd; omega, fun w => wrap_1_1 s w h2⟩
    · exact ⟨2, by unfold okHd; omega, fun w => wrap_1_2 s w (by omega) h⟩
  · exact ⟨2, by unfold okHd; omega, fun w => wrap_2_2 s w h⟩
  · exact ⟨3, by unfold okHd; omega, fun w => wrap_3_3 s w h⟩
  · exact ⟨4, by unfold okHd; omega, fun w => wrap_4_4 s w h⟩

theorem hd_len (k n : Nat) : (hd k n).length = 2 + k := by
  unfold hd
  by_cases h : k = 0
  · rw [if_pos h, h]; rfl
  · rw [if_neg h, List.length_cons, List.length_cons, bs_len]; omega
theorem bt_0 (n : Nat) : (bt n 0).toNat = n % 256 := by
  unfold bt; rw [if_pos rfl, u8_of _ (by omega)]
theorem bt_1 (n : Nat) (h : n ≤ 4096) : (bt n 1).toNat = n / 256 := by
  unfold bt; rw [if_neg (by omega), if_pos rfl, u8_of _ (by omega)]
theorem bd_hd (k n : Nat) (t : List UInt8) (h : okHd k n) (k1 : 1 ≤ k) : bd (hd k n ++ t) k = n := by
  obtain ⟨h4, h0, h1, hn⟩ := h
  have b0 := bt_0 n
  have b1 := bt_1 n hn
  have : k = 1 ∨ k = 2 ∨ k = 3 ∨ k = 4 := by omega
  rcases this with rfl | rfl | rfl | rfl
  · show 0 * 256 + (bt n 0).toNat = n
    rw [b0]; have := h1 rfl; omega
  · show (0 * 256 + (bt n 1).toNat) * 256 + (bt n 0).toNat = n
    rw [b0, b1]; omega
  · show ((0 * 256 + (bt n 2).toNat) * 256 + (bt n 1).toNat) * 256 + (bt n 0).toNat = n
    rw [b0, b1, show (bt n 2).toNat = 0 from rfl]; omega
  · show (((0 * 256 + (bt n 3).toNat) * 256 + (bt n 2).toNat) * 256 + (bt n 1).toNat) * 256 + (bt n 0).toNat = n
    rw [b0, b1, show (bt n 2).toNat = 0 from rfl, show (bt n 3).toNat = 0 from rfl]; omega
theorem hd_l0 (k n : Nat) (t : List UInt8) : lb (hd k n ++ t) 0 = 48 := by
  unfold hd
  by_cases h : k = 0
  · rw [if_pos h]; rfl
  · rw [if_neg h]; rfl
theorem hd_l1 (k n : Nat) (t : List UInt8) (h : okHd k n) : lb (hd k n ++ t) 1 = if k = 0 then n else 128 + k := by
  obtain ⟨h4, h0, h1, hn⟩ := h
  unfold hd
  by_cases hk : k = 0
  · rw [if_pos hk, if_pos hk]
    show (UInt8.ofNat n).toNat = n
    exact u8_of _ (by have := h0 hk; omega)
  · rw [if_neg hk, if_neg hk]
    show (UInt8.ofNat (128 + k)).toNat = 128 + k
    exact u8_of _ (by omega)
/-- A whole header, whatever stands behind it. -/
theorem look_hd (lim : Int) (k n : Nat) (t : List UInt8) (h : okHd k n) : FrMath.look lim (hd k n ++ t) = within lim 0 (2 + k + n) := by
  have hl : (hd k n ++ t).length = 2 + k + t.length := by rw [List.length_append, hd_len]
  have l0 := hd_l0 k n t
  have l1 := hd_l1 k n t h
  unfold FrMath.look
  rw [if_neg (by omega), if_neg (by omega), if_neg (by omega)]
  by_cases hk : k = 0
  · rw [if_pos hk] at l1
    have := h.2.1 hk
    rw [if_pos (by omega), l1, hk]
  · rw [if_neg hk] at l1
    have := h.1
    rw [if_neg (by omega), if_neg (by omega), if_neg (by omega), hl, l1]
    have e1 : 128 + k - 126 - (2 + k + t.length) = 0 := by omega
    have e2 : 128 + k - 126 = 2 + k := by omega
    have e3 : 128 + k - 128 = k := by omega
    rw [e1, e2, e3, bd_hd k n t h (by omega)]
/-- All of a header but its last byte. -/
theorem look_cut (lim : Int) (k n : Nat) (h : okHd k n) : (FrMath.look lim ((hd k n).take (1 + k))).er = 0 ∧ ((hd k n).take (1 + k)).length < (FrMath.look lim ((hd k n).take (1 + k))).sz := by
  have hl : ((hd k n).take (1 + k)).length = 1 + k := by rw [List.length_take, hd_len]; omega
  have hsplit : (hd k n).take (1 + k) ++ (hd k n).drop (1 + k) = hd k n := List.take_append_drop _ _
  have l0 : lb ((hd k n).take (1 + k)) 0 = 48 := by
    rw [← FrMath.lb_app _ ((hd k n).drop (1 + k)) 0 (by omega), hsplit]
    have := hd_l0 k n []
    rwa [List.append_nil] at this
  by_cases hk : k = 0
  · have e : FrMath.look lim ((hd k n).take (1 + k)) = ⟨1, 2, 0⟩ := by
      unfold FrMath.look
      rw [if_neg (by omega), if_neg (by omega), if_pos (by omega)]
    rw [e, hl]
    exact ⟨rfl, by show 1 + k < 2; omega⟩
  · have l1 : lb ((hd k n).take (1 + k)) 1 = 128 + k := by
      rw [← FrMath.lb_app _ ((hd k n).drop (1 + k)) 1 (by omega), hsplit]
      have := hd_l1 k n [] h
      rwa [List.append_nil, if_neg hk] at this
    have h4 := h.1
    have e : FrMath.look lim ((hd k n).take (1 + k)) = ⟨1, 2 + k + bd ((hd k n).take (1 + k)) k, 0⟩ := by
      unfold FrMath.look
      rw [if_neg (by omega), if_neg (by omega), if_neg (by omega), if_neg (by omega), if_neg (by omega), if_neg (by omega), hl, l1]
      have e1 : 128 + k - 126 - (1 + k) = 1 := by omega
      have e2 : 128 + k - 126 = 2 + k := by omega
      have e3 : 128 + k - 128 = k := by omega
      rw [e1, e2, e3, FrMath.within_m _ _ _ (by omega)]
    rw [e, hl]
    exact ⟨rfl, by show 1 + k < 2 + k + _; omega⟩

theorem short_any (s : ByteArray) (hm : s.size ≤ 140737488351232) :
    ∃ t : ByteArray, t.size ≤ 4096 ∧ t.size ≤ s.size ∧ ∀ w, Calls Try.prog 12 #[.string s] w fun r w' => r = .returned (.string t) ∧ w = w' := by
  by_cases h : 4096 < s.size
  · have d1 : decide ((4096 : Int) < (s.size : Int)) = true := decide_eq_true (by omega)
    have p1 : (4096 : Int) ≤ (s.size : Int) := by omega
    refine ⟨s.extract 0 4096, by rw [ByteArray.size_extract]; omega, by rw [ByteArray.size_extract]; omega, fun w => ?_⟩

    go_enter Try.func12, Try.ntmps12
    go_wp2_with fail
    go_ret
    exact ⟨rfl, rfl⟩
  · have d1 : decide ((4096 : Int) < (s.size : Int)) = false := decide_eq_false (by omega)
    refine ⟨s, by omega, Nat.le_refl _, fun w => ?_⟩

    go_enter Try.func12, Try.ntmps12
    go_wp2_with fail
    go_ret
    exact ⟨rfl, rfl⟩
end Go.Proofs.Ytddkefjcpgdomaa
