import Derived.Test.YtkknenmpdimdbaaGreatDoorFW17
import Derived.Test.YtkknenmpdimdbaaGreatDoorFW12
import Derived.Test.YtkknenmpdimdbaaGreatDoorFW13
namespace Go.Proofs.YtkknenmpdimdbaaGreatDoor
open Go.RowKit
open TextMath (ld wi seqLen check u)
theorem wi_false (b lo hi : Int) : wi b lo hi = false ↔ ¬ (lo ≤ b ∧ b ≤ hi) := by
 unfold wi; rw [Bool.eq_false_iff, ne_eq, Bool.and_eq_true, decide_eq_true_eq, decide_eq_true_eq]
theorem seqLen_intro (l : List UInt8) (n lo hi : Int) (h : ld (u (l.getD 0 0)) = (n, lo, hi)) (hl : n ≤ l.length) (h3 : n = 4 → 128 ≤ u (l.getD 3 0) ∧ u (l.getD 3 0) ≤ 191)
  (h2 : n = 4 ∨ n = 3 → 128 ≤ u (l.getD 2 0) ∧ u (l.getD 2 0) ≤ 191) (h1 : n = 4 ∨ n = 3 ∨ n = 2 → lo ≤ u (l.getD 1 0) ∧ u (l.getD 1 0) ≤ hi) : (seqLen l : Int) = n.toNat := by
 unfold seqLen
 simp only [h]
 rw [if_neg (by omega), if_neg, if_neg, if_neg]
 ·rintro ⟨a, b⟩; exact (wi_false _ _ _).1 b (h1 a)
 ·rintro ⟨a, b⟩; exact (wi_false _ _ _).1 b (h2 a)
 ·rintro ⟨a, b⟩; exact (wi_false _ _ _).1 b (h3 a)
theorem seqLen_elim (l : List UInt8) (n lo hi : Int) (h : ld (u (l.getD 0 0)) = (n, lo, hi)) (h0 : seqLen l ≠ 0) : n ≤ l.length ∧ (n = 4 → 128 ≤ u (l.getD 3 0) ∧ u (l.getD 3 0) ≤ 191) ∧
  (n = 4 ∨ n = 3 → 128 ≤ u (l.getD 2 0) ∧ u (l.getD 2 0) ≤ 191) ∧ (n = 4 ∨ n = 3 ∨ n = 2 → lo ≤ u (l.getD 1 0) ∧ u (l.getD 1 0) ≤ hi) ∧ n ≠ 0 := by
 unfold seqLen at h0
 simp only [h] at h0
 split at h0
 ·exact absurd rfl h0
 split at h0
 ·exact absurd rfl h0
 split at h0
 ·exact absurd rfl h0
 split at h0
 ·exact absurd rfl h0
 rename_i a b c d
 refine ⟨by omega, fun e => ?_, fun e => ?_, fun e => ?_, fun e => h0 (by rw [e]; rfl)⟩
 ·by_cases hx : 128 ≤ u (l.getD 3 0) ∧ u (l.getD 3 0) ≤ 191
  ·exact hx
  ·exact absurd ⟨e, (wi_false _ _ _).2 hx⟩ b
 ·by_cases hx : 128 ≤ u (l.getD 2 0) ∧ u (l.getD 2 0) ≤ 191
  ·exact hx
  ·exact absurd ⟨e, (wi_false _ _ _).2 hx⟩ c
 ·by_cases hx : lo ≤ u (l.getD 1 0) ∧ u (l.getD 1 0) ≤ hi
  ·exact hx
  ·exact absurd ⟨e, (wi_false _ _ _).2 hx⟩ d
theorem fit_mk (r : Nat) (l : List UInt8) (n : Nat) (hn : R r 0 = n) (h4 : n ≤ 4) (hl : n ≤ l.length) (h : ∀ k, k < 4 → k < n → R r (1 + 2 * k) ≤ u (l.getD k 0) ∧ u (l.getD k 0) ≤ R r (2 + 2 * k)) : fit r l :=
 ⟨by rw [hn]; omega, fun k hk => by rw [hn] at hk; exact h k (by omega) (by omega)⟩
theorem seq_fit (r : Nat) (hr : r < 9) (l : List UInt8) (h : fit r l) : (seqLen l : Int) = R r 0 := by
 obtain ⟨hl, hk⟩ := h
 match r, hr with
 | 0, _ =>
  have k0 := hk 0 (by decide)
  have hl' : (1 : Int) ≤ l.length := hl
  have a0 : (0 : Int) ≤ u (l.getD 0 0) ∧ u (l.getD 0 0) ≤ 127 := k0
  exact seqLen_intro l 1 0 0 (by unfold ld; rw [if_pos (by omega)]) hl' (by omega) (by omega) (by omega)
 | 1, _ =>
  have hl' : (2 : Int) ≤ l.length := hl
  have a0 : (194 : Int) ≤ u (l.getD 0 0) ∧ u (l.getD 0 0) ≤ 223 := hk 0 (by decide)
  have a1 : (128 : Int) ≤ u (l.getD 1 0) ∧ u (l.getD 1 0) ≤ 191 := hk 1 (by decide)
  exact seqLen_intro l 2 128 191 (by unfold ld; rw [if_neg (by omega), if_neg (by omega), if_pos (by omega)]) hl' (by omega) (by omega) (fun _ => a1)
 | 2, _ =>
  have hl' : (3 : Int) ≤ l.length := hl
  have a0 : (224 : Int) ≤ u (l.getD 0 0) ∧ u (l.getD 0 0) ≤ 224 := hk 0 (by decide)
  have a1 : (160 : Int) ≤ u (l.getD 1 0) ∧ u (l.getD 1 0) ≤ 191 := hk 1 (by decide)
  have a2 : (128 : Int) ≤ u (l.getD 2 0) ∧ u (l.getD 2 0) ≤ 191 := hk 2 (by decide)
  exact seqLen_intro l 3 160 191 (by unfold ld; rw [if_neg (by omega), if_neg (by omega), if_neg (by omega), if_pos (by omega)]) hl' (by omega) (fun _ => a2) (fun _ => a1)
 | 3, _ =>
  have hl' : (3 : Int) ≤ l.length := hl
  have a0 : (225 : Int) ≤ u (l.getD 0 0) ∧ u (l.getD 0 0) ≤ 236 := hk 0 (by decide)
  have a1 : (128 : Int) ≤ u (l.getD 1 0) ∧ u (l.getD 1 0) ≤ 191 := hk 1 (by decide)
  have a2 : (128 : Int) ≤ u (l.getD 2 0) ∧ u (l.getD 2 0) ≤ 191 := hk 2 (by decide)
  exact seqLen_intro l 3 128 191 (by unfold ld; rw [if_neg (by omega), if_neg (by omega), if_neg (by omega), if_neg (by omega), if_neg (by omega), if_pos (by omega)]) hl' (by omega) (fun _ => a2) (fun _ => a1)
 | 4, _ =>
  have hl' : (3 : Int) ≤ l.length := hl
  have a0 : (237 : Int) ≤ u (l.getD 0 0) ∧ u (l.getD 0 0) ≤ 237 := hk 0 (by decide)
  have a1 : (128 : Int) ≤ u (l.getD 1 0) ∧ u (l.getD 1 0) ≤ 159 := hk 1 (by decide)
  have a2 : (128 : Int) ≤ u (l.getD 2 0) ∧ u (l.getD 2 0) ≤ 191 := hk 2 (by decide)
  exact seqLen_intro l 3 128 159 (by unfold ld; rw [if_neg (by omega), if_neg (by omega), if_neg (by omega), if_neg (by omega), if_pos (by omega)]) hl' (by omega) (fun _ => a2) (fun _ => a1)
 | 5, _ =>
  have hl' : (3 : Int) ≤ l.length := hl
  have a0 : (238 : Int) ≤ u (l.getD 0 0) ∧ u (l.getD 0 0) ≤ 239 := hk 0 (by decide)
  have a1 : (128 : Int) ≤ u (l.getD 1 0) ∧ u (l.getD 1 0) ≤ 191 := hk 1 (by decide)
  have a2 : (128 : Int) ≤ u (l.getD 2 0) ∧ u (l.getD 2 0) ≤ 191 := hk 2 (by decide)
  exact seqLen_intro l 3 128 191 (by unfold ld; rw [if_neg (by omega), if_neg (by omega), if_neg (by omega), if_neg (by omega), if_neg (by omega), if_pos (by omega)]) hl' (by omega) (fun _ => a2) (fun _ => a1)
 | 6, _ =>
  have hl' : (4 : Int) ≤ l.length := hl
  have a0 : (240 : Int) ≤ u (l.getD 0 0) ∧ u (l.getD 0 0) ≤ 240 := hk 0 (by decide)
  have a1 : (144 : Int) ≤ u (l.getD 1 0) ∧ u (l.getD 1 0) ≤ 191 := hk 1 (by decide)
  have a2 : (128 : Int) ≤ u (l.getD 2 0) ∧ u (l.getD 2 0) ≤ 191 := hk 2 (by decide)
  have a3 : (128 : Int) ≤ u (l.getD 3 0) ∧ u (l.getD 3 0) ≤ 191 := hk 3 (by decide)
  exact seqLen_intro l 4 144 191 (by unfold ld; rw [if_neg (by omega), if_neg (by omega), if_neg (by omega), if_neg (by omega), if_neg (by omega), if_neg (by omega), if_pos (by omega)]) hl' (fun _ => a3) (fun _ => a2) (fun _ => a1)
 | 7, _ =>
  have hl' : (4 : Int) ≤ l.length := hl
  have a0 : (241 : Int) ≤ u (l.getD 0 0) ∧ u (l.getD 0 0) ≤ 243 := hk 0 (by decide)
  have a1 : (128 : Int) ≤ u (l.getD 1 0) ∧ u (l.getD 1 0) ≤ 191 := hk 1 (by decide)
  have a2 : (128 : Int) ≤ u (l.getD 2 0) ∧ u (l.getD 2 0) ≤ 191 := hk 2 (by decide)
  have a3 : (128 : Int) ≤ u (l.getD 3 0) ∧ u (l.getD 3 0) ≤ 191 := hk 3 (by decide)
  exact seqLen_intro l 4 128 191 (by unfold ld; rw [if_neg (by omega), if_neg (by omega), if_neg (by omega), if_neg (by omega), if_neg (by omega), if_neg (by omega), if_neg (by omega), if_pos (by omega)]) hl' (fun _ => a3) (fun _ => a2) (fun _ => a1)
 | 8, _ =>
  have hl' : (4 : Int) ≤ l.length := hl
  have a0 : (244 : Int) ≤ u (l.getD 0 0) ∧ u (l.getD 0 0) ≤ 244 := hk 0 (by decide)
  have a1 : (128 : Int) ≤ u (l.getD 1 0) ∧ u (l.getD 1 0) ≤ 143 := hk 1 (by decide)
  have a2 : (128 : Int) ≤ u (l.getD 2 0) ∧ u (l.getD 2 0) ≤ 191 := hk 2 (by decide)
  have a3 : (128 : Int) ≤ u (l.getD 3 0) ∧ u (l.getD 3 0) ≤ 191 := hk 3 (by decide)
  exact seqLen_intro l 4 128 143 (by unfold ld; rw [if_neg (by omega), if_neg (by omega), if_neg (by omega), if_neg (by omega), if_neg (by omega), if_neg (by omega), if_neg (by omega), if_neg (by omega), if_pos (by omega)]) hl' (fun _ => a3) (fun _ => a2) (fun _ => a1)
theorem fit1 (r : Nat) (l : List UInt8) (a b : Int) (hr : ROWS.getD r [] = [1, a, b, 0, 0, 0, 0, 0, 0]) (hl : 1 ≤ (l.length : Int)) (h0 : a ≤ u (l.getD 0 0) ∧ u (l.getD 0 0) ≤ b) : fit r l := by
 have hR : ∀ c, R r c = ([1, a, b, 0, 0, 0, 0, 0, 0] : List Int).getD c 0 := fun c => by unfold R; rw [hr]
 refine fit_mk r l 1 (by rw [hR]; rfl) (by omega) (by omega) fun k hk hk1 => ?_
 obtain rfl : k = 0 := by omega
 rw [hR, hR]; exact h0
theorem fit2 (r : Nat) (l : List UInt8) (a b c d : Int) (hr : ROWS.getD r [] = [2, a, b, c, d, 0, 0, 0, 0]) (hl : 2 ≤ (l.length : Int)) (h0 : a ≤ u (l.getD 0 0) ∧ u (l.getD 0 0) ≤ b) (h1 : c ≤ u (l.getD 1 0) ∧ u (l.getD 1 0) ≤ d) : fit r l := by
 have hR : ∀ x, R r x = ([2, a, b, c, d, 0, 0, 0, 0] : List Int).getD x 0 := fun x => by unfold R; rw [hr]
 refine fit_mk r l 2 (by rw [hR]; rfl) (by omega) (by omega) fun k hk hk1 => ?_
 rw [hR, hR]
 match k, hk1 with
 | 0, _ => exact h0
 | 1, _ => exact h1
theorem fit3 (r : Nat) (l : List UInt8) (a b c d : Int) (hr : ROWS.getD r [] = [3, a, b, c, d, 128, 191, 0, 0]) (hl : 3 ≤ (l.length : Int)) (h0 : a ≤ u (l.getD 0 0) ∧ u (l.getD 0 0) ≤ b) (h1 : c ≤ u (l.getD 1 0) ∧ u (l.getD 1 0) ≤ d)
  (h2 : 128 ≤ u (l.getD 2 0) ∧ u (l.getD 2 0) ≤ 191) : fit r l := by
 have hR : ∀ x, R r x = ([3, a, b, c, d, 128, 191, 0, 0] : List Int).getD x 0 := fun x => by unfold R; rw [hr]
 refine fit_mk r l 3 (by rw [hR]; rfl) (by omega) (by omega) fun k hk hk1 => ?_
 rw [hR, hR]
 match k, hk1 with
 | 0, _ => exact h0
 | 1, _ => exact h1
 | 2, _ => exact h2
theorem fit4 (r : Nat) (l : List UInt8) (a b c d : Int) (hr : ROWS.getD r [] = [4, a, b, c, d, 128, 191, 128, 191]) (hl : 4 ≤ (l.length : Int)) (h0 : a ≤ u (l.getD 0 0) ∧ u (l.getD 0 0) ≤ b) (h1 : c ≤ u (l.getD 1 0) ∧ u (l.getD 1 0) ≤ d)
  (h2 : 128 ≤ u (l.getD 2 0) ∧ u (l.getD 2 0) ≤ 191) (h3 : 128 ≤ u (l.getD 3 0) ∧ u (l.getD 3 0) ≤ 191) : fit r l := by
 have hR : ∀ x, R r x = ([4, a, b, c, d, 128, 191, 128, 191] : List Int).getD x 0 := fun x => by unfold R; rw [hr]
 refine fit_mk r l 4 (by rw [hR]; rfl) (by omega) (by omega) fun k hk hk1 => ?_
 rw [hR, hR]
 match k, hk1 with
 | 0, _ => exact h0
 | 1, _ => exact h1
 | 2, _ => exact h2
 | 3, _ => exact h3
theorem seq_nofit (l : List UInt8) (h : ∀ r, r < 9 → ¬ fit r l) : seqLen l = 0 := by
 by_cases hz : seqLen l = 0
 ·exact hz
 exfalso
 have hu : (0 : Int) ≤ u (l.getD 0 0) := by unfold u; omega
 obtain ⟨n, lo, hi, hq⟩ : ∃ n lo hi, ld (u (l.getD 0 0)) = (n, lo, hi) := ⟨_, _, _, rfl⟩
 obtain ⟨hl, h3, h2, h1, hn⟩ := seqLen_elim l n lo hi hq hz
 unfold ld at hq
 split at hq
 ·obtain ⟨rfl, rfl, rfl⟩ : 1 = n ∧ 0 = lo ∧ 0 = hi := by simpa using hq
  exact h 0 (by omega) (fit1 0 l 0 127 rfl hl ⟨hu, by omega⟩)
 split at hq
 ·obtain ⟨rfl, rfl, rfl⟩ : 0 = n ∧ 0 = lo ∧ 0 = hi := by simpa using hq
  exact hn rfl
 split at hq
 ·obtain ⟨rfl, rfl, rfl⟩ : 2 = n ∧ 128 = lo ∧ 191 = hi := by simpa using hq
  exact h 1 (by omega) (fit2 1 l 194 223 128 191 rfl hl ⟨by omega, by omega⟩ (h1 (by omega)))
 split at hq
 ·obtain ⟨rfl, rfl, rfl⟩ : 3 = n ∧ 160 = lo ∧ 191 = hi := by simpa using hq
  exact h 2 (by omega) (fit3 2 l 224 224 160 191 rfl hl ⟨by omega, by omega⟩ (h1 (by omega)) (h2 (by omega)))
 split at hq
 ·obtain ⟨rfl, rfl, rfl⟩ : 3 = n ∧ 128 = lo ∧ 159 = hi := by simpa using hq
  exact h 4 (by omega) (fit3 4 l 237 237 128 159 rfl hl ⟨by omega, by omega⟩ (h1 (by omega)) (h2 (by omega)))
 split at hq
 ·obtain ⟨rfl, rfl, rfl⟩ : 3 = n ∧ 128 = lo ∧ 191 = hi := by simpa using hq
  by_cases hx : u (l.getD 0 0) ≤ 236
  ·exact h 3 (by omega) (fit3 3 l 225 236 128 191 rfl hl ⟨by omega, by omega⟩ (h1 (by omega)) (h2 (by omega)))
  ·exact h 5 (by omega) (fit3 5 l 238 239 128 191 rfl hl ⟨by omega, by omega⟩ (h1 (by omega)) (h2 (by omega)))
 split at hq
 ·obtain ⟨rfl, rfl, rfl⟩ : 4 = n ∧ 144 = lo ∧ 191 = hi := by simpa using hq
  exact h 6 (by omega) (fit4 6 l 240 240 144 191 rfl hl ⟨by omega, by omega⟩ (h1 (by omega)) (h2 (by omega)) (h3 (by omega)))
 split at hq
 ·obtain ⟨rfl, rfl, rfl⟩ : 4 = n ∧ 128 = lo ∧ 191 = hi := by simpa using hq
  exact h 7 (by omega) (fit4 7 l 241 243 128 191 rfl hl ⟨by omega, by omega⟩ (h1 (by omega)) (h2 (by omega)) (h3 (by omega)))
 split at hq
 ·obtain ⟨rfl, rfl, rfl⟩ : 4 = n ∧ 128 = lo ∧ 143 = hi := by simpa using hq
  exact h 8 (by omega) (fit4 8 l 244 244 128 143 rfl hl ⟨by omega, by omega⟩ (h1 (by omega)) (h2 (by omega)) (h3 (by omega)))
 ·obtain ⟨rfl, rfl, rfl⟩ : 0 = n ∧ 0 = lo ∧ 0 = hi := by simpa using hq
  exact hn rfl
set_option maxHeartbeats 1000000 in
theorem rSequence_any (s : ByteArray) (i : Nat) (w : World) (hm : s.size ≤ 140737488355328) (hi : i ≤ s.size) (ht : RowTab w) :
  Calls Tryz.prog 63 #[.string s, .int .i64 (i : Int)] w fun e w' => e = .returned (.int .i64 (seqLen (s.data.toList.drop i) : Nat)) ∧ w = w' := by
 go_enter Tryz.func63, Tryz.ntmps63
 go_wp2
 go_loop [5] (fun t => ∃ k : Nat, k ≤ 9 ∧ t = .int .i64 k ∧ Hid (∀ r, r < k → ¬ fit r (s.data.toList.drop i))) (fun t => 9 - (intOf t).toNat)
 case atStart => exact ⟨0, Nat.zero_le _, rfl, fun _ h => by omega⟩
 case round =>
  obtain ⟨k, hk, rfl, hall⟩ := hrel
  by_cases hlt : k < 9
  ·have hc0 := ht k 0 hlt (by omega)
   rw [Nat.add_zero] at hc0
   have hk' : (k : Int) < 9 := by omega
   by_cases hf : fit k (s.data.toList.drop i)
   ·have hs := seq_fit k hlt _ hf
    have HS : Hid (R k 0 = (seqLen (s.data.toList.drop i) : Nat)) := hs.symm
    have hcall : ∀ W, RowTab W → Hid (Calls Tryz.prog 94 #[.string s, .int .i64 (i : Int), .int .i64 (k : Int)] W fun e w' => e = .returned (.bool true) ∧ W = w') := fun W hW => (fits_any s i k W hm hi hlt hW).mono fun e w' h => by
     obtain ⟨⟨b, hb, hiff⟩, hw⟩ := h
     rw [hiff.2 hf] at hb
     exact ⟨hb, hw⟩
    clear hs hf hall
    go_wp2_with (go_at_call 94; refine (hcall _ ht).out.mono ?_; rintro e w' ⟨rfl, rfl⟩)
    go_ret
    exact ⟨ret_int HS.out, rfl⟩
   ·have hcall : ∀ W, RowTab W → Hid (Calls Tryz.prog 94 #[.string s, .int .i64 (i : Int), .int .i64 (k : Int)] W fun e w' => e = .returned (.bool false) ∧ W = w') := fun W hW => (fits_any s i k W hm hi hlt hW).mono fun e w' h => by
     obtain ⟨⟨b, hb, hiff⟩, hw⟩ := h
     have : b = false := by
      cases b
      ·rfl
      ·exact absurd (hiff.1 rfl) hf
     rw [this] at hb
     exact ⟨hb, hw⟩
    have HA : Hid (∀ r, r < k + 1 → ¬ fit r (s.data.toList.drop i)) := fun r hr => by
     by_cases e : r = k
     ·subst e; exact hf
     ·exact hall.out r (by omega)
    clear hf hall
    go_wp2_with (go_at_call 94; refine (hcall _ ht).out.mono ?_; rintro e w' ⟨rfl, rfl⟩)
    go_round
    case rel => exact ⟨k + 1, by omega, by go_num, HA⟩
    case measure => simp [intOf]; omega
  ·have hz : Hid (seqLen (s.data.toList.drop i) = 0) := seq_nofit _ fun r hr => hall.out r (by omega)
   clear hall
   go_wp2
   go_ret
   exact ⟨ret_int (by rw [hz.out]; rfl), rfl⟩
set_option maxHeartbeats 400000 in
theorem rCheck_any (s : ByteArray) (w : World) (hm : s.size ≤ 140737488355328) (ht : RowTab w) :
  Calls Tryz.prog 34 #[.string s] w fun e w' => e = .returned (chkV s.data.toList) ∧ w = w' := by
 have hL : Hid (s.data.toList.length = s.size) := size_l s
 go_enter Tryz.func34, Tryz.ntmps34
 go_wp2
 go_loop [4] (fun i => ∃ k : Nat, k ≤ s.size ∧ i = .int .i64 k ∧ Hid (check s.data.toList = ((check (s.data.toList.drop k)).1, k + (check (s.data.toList.drop k)).2))) (fun i => s.size - (intOf i).toNat)
 case atStart => exact ⟨0, Nat.zero_le _, rfl, by unfold Hid; simp⟩
 case round =>
  obtain ⟨k, hk, rfl, hc⟩ := hrel
  by_cases hlt : k < s.size
  ·have hq := TextMath.seqLen_le (s.data.toList.drop k)
   have hq' : seqLen (s.data.toList.drop k) + k ≤ s.size := by rw [List.length_drop, hL.out] at hq; omega
   clear hq
   have hcall : ∀ W, RowTab W → Hid (Calls Tryz.prog 63 #[.string s, .int .i64 (k : Int)] W fun e w' => e = .returned (.int .i64 (seqLen (s.data.toList.drop k) : Nat)) ∧ W = w') := fun W hW => rSequence_any s k W hm hk hW
   generalize hn : seqLen (s.data.toList.drop k) = n at *
   have Hn : Hid (seqLen (s.data.toList.drop k) = n) := hn
   clear hn
   by_cases hn0 : n = 0
   ·subst hn0
    go_wp2_with (go_at_call 63; refine (hcall _ ht).out.mono ?_; rintro e w' ⟨rfl, rfl⟩)
    go_ret2
    exact ⟨chkV_bad _ k (by rw [hL.out]; exact hlt) hc.out Hn.out, rfl⟩
   ·have hz : (((n : Nat) : Int) == 0) = false := by simp; omega
    go_wp2_with (go_at_call 63; refine (hcall _ ht).out.mono ?_; rintro e w' ⟨rfl, rfl⟩)
    go_round
    case rel => exact ⟨k + n, by omega, by go_num, by have h := chk_step _ k hc.out (by rw [Hn.out]; exact hn0); rw [Hn.out] at h; exact h⟩
    case measure => simp [intOf]; omega
  ·have hke : k = s.size := by omega
   have h := chkV_end _ k (by rw [hL.out]; exact hlt) hc.out
   rw [hke] at h
   have HH : Hid (_ = _) := h
   clear h hke hc
   go_wp2
   go_ret2
   exact ⟨HH.out, rfl⟩
end Go.Proofs.YtkknenmpdimdbaaGreatDoor

namespace Go.Proofs.YtkknenmpdimdbaaGreatDoor
namespace Ke
open Go.RowKit
open TextMath (fold lo normal check)
open Du (PRow pV pV_len prow_at)
set_option linter.unusedVariables false
set_option linter.unusedSimpArgs false
set_option maxRecDepth 100000
theorem rparse_ty (t : List UInt8) (w : World) (ht : t.length ≤ 4194300) :
  Calls Tryz.prog 47 #[.string (S t)] w fun e w' => (∃ m : Nat, e = .returned (.tuple #[.string (S (tyC t)), .int .i64 (if tyOk t = true then 0 else 40), .int .i64 (m : Int)])) ∧ Below w.heap.size w w' := by
 refine (parseTypeR_any (S t) w (by rw [S_size]; exact ht)).mono ?_
 rintro e w' ⟨rfl, hb⟩
 rw [S_l]
 refine ⟨⟨(tyR t).2.2, ?_⟩, hb⟩
 rw [← tyR_er]
 unfold tyC tyR
 rw [S_of]
theorem rcheck_ty (v : List UInt8) (w : World) (ht : v.length ≤ 140737488355328) (hT : RowTab w) :
  Calls Tryz.prog 34 #[.string (S v)] w fun e w' => (∃ m : Nat, e = .returned (.tuple #[.int .i64 (if utf v = true then 0 else 10), .int .i64 (m : Int)])) ∧ w' = w := by
 refine (rCheck_any (S v) w (by rw [S_size]; exact ht) hT).mono ?_
 rintro e w' ⟨rfl, rfl⟩
 rw [S_l]
 exact ⟨⟨(check v).2, rfl⟩, rfl⟩
theorem rowTab_below {W W' : World} (h : RowTab W) (hb : Below W.heap.size W W') : RowTab W' := fun r c hr hc => by
 have h1 := h r c hr hc
 rw [hb.cell (World.block_lt_of_cell? W _ h1)]
 exact h1
set_option maxHeartbeats 4000000 in
theorem wrong_any (a : Option Addr) (c n : Nat) (ps : List PR) (w : World) (hG : RowTab w) (hn : ps.length = n) (hr : PRow w a ps) (hz : ∀ p ∈ ps, p.1.length + p.2.length ≤ 4194300) (hnb : n ≤ 140737488355328) :
  Calls Tryz.prog 46 #[.slice a n c] w fun e w' => e = .returned (.int .i64 (rerr ps : Int)) ∧ Below w.heap.size w w' := by
 have nb : (n : Int) ≤ 140737488355328 := by omega
 have n0 : (0 : Int) ≤ (n : Int) := by omega
 have hn' : Hid (ps.length = n) := hn
 have hr' : Hid (PRow w a ps) := hr
 have hz' : Hid (∀ p ∈ ps, p.1.length + p.2.length ≤ 4194300) := hz
 have hG' : Hid (RowTab w) := hG
 clear hr hz hG
 by_cases hz0 : n = 0
 ·subst hz0
  have hno : Hid (rerr ps = 59) := by unfold Hid rerr; rw [if_pos hn]
  clear hn hG' hr' hz' hn'
  go_enter Tryz.func46, Tryz.ntmps46
  go_wp2_with fail
  go_ret
  exact ⟨by rw [hno.out]; rfl, Below.refl _ _⟩
 ·have nz : ¬ ((n : Int) = 0) := by omega
  by_cases hz8 : 8 < n
  ·have n8 : (8 : Int) < (n : Int) := by omega
   have hno : Hid (rerr ps = 58) := by unfold Hid rerr; rw [if_neg (by omega), if_pos (by omega)]
   clear hn hG' hr' hz' hn'
   go_enter Tryz.func46, Tryz.ntmps46
   go_wp2_with fail
   go_ret
   exact ⟨by rw [hno.out]; rfl, Below.refl _ _⟩
  ·have n8 : ¬ (8 : Int) < (n : Int) := by omega
   have hlo : Hid (1 ≤ n ∧ n ≤ 8) := ⟨by omega, by omega⟩
   clear hn hnb hz0 hz8
   go_enter Tryz.func46, Tryz.ntmps46
   go_wp2_with fail
   go_loopw [3, 4] (fun tv iv wr => ∃ (k : Nat) (ta : Option Addr) (tc : Nat), k ≤ n ∧ iv = .int .i64 (k : Int) ∧ tv = .slice ta k tc ∧ Hid ((∀ j, j < k → OkI ps j) ∧ OwnS wr w.heap.size (.slice ta k tc) ((ps.take k).map fun p => tyC p.1) ∧ Below w.heap.size w wr)) (fun _ iv _ => n - (intOf iv).toNat)
   case atStart => exact ⟨0, none, 0, Nat.zero_le _, rfl, rfl, fun j hj => by omega, ownS_nil _ _, Below.refl _ _⟩
   case round =>
    obtain ⟨k, ta, tc, hk, rfl, rfl, hR⟩ := hrel
    have k0 : (0 : Int) ≤ (k : Int) := Int.natCast_nonneg _
    by_cases hlt : k < n
    ·have k1 : (k : Int) < (n : Int) := Int.ofNat_lt.2 hlt
     have hkP : k < ps.length := by rw [hn'.out]; exact hlt
     obtain ⟨pb, po, rfl, c3, c4⟩ := prow_at (hr'.out.below pV_len hR.out.2.2) k hkP
     have hr3 : Hid (∀ W, Below w.heap.size w W → W.cell? ⟨pb, po + k * 2 + 1, none⟩ = some (.string (S ps[k].2))) := fun W hW => by
      obtain ⟨pb', po', e, _, h⟩ := prow_at (hr'.out.below pV_len hW) k hkP
      injection e with e
      injection e with e1 e2
      subst e1 e2
      exact h
     have hzk := hz'.out _ (List.getElem_mem hkP)
     have hIk : Hid (tyOk ps[k].1 = true → tyC ps[k].1 ∉ (ps.take k).map (fun p => tyC p.1) → utf ps[k].2 = true → OkI ps k) := fun h1 h2 h3 => ⟨hkP, h1, h2, h3⟩
     have hcer59 : Hid (¬ tyOk ps[k].1 = true → rerr ps = 59) := fun h => rer_ty (by rw [hn'.out]; exact hlo.out.1) (by rw [hn'.out]; exact hlo.out.2) k hkP hR.out.1 h
     have hcer57 : Hid (tyOk ps[k].1 = true → tyC ps[k].1 ∈ (ps.take k).map (fun p => tyC p.1) → rerr ps = 57) := fun h h' => rer_in (by rw [hn'.out]; exact hlo.out.1) (by rw [hn'.out]; exact hlo.out.2) k hkP hR.out.1 h h'
     have hcer51 : Hid (tyOk ps[k].1 = true → tyC ps[k].1 ∉ (ps.take k).map (fun p => tyC p.1) → ¬ utf ps[k].2 = true → rerr ps = 51) := fun h h' h'' => rer_ut (by rw [hn'.out]; exact hlo.out.1) (by rw [hn'.out]; exact hlo.out.2) k hkP hR.out.1 h h' h''
     have hsn : Hid ((ps.take (k + 1)).map (fun p => tyC p.1) = (ps.take k).map (fun p => tyC p.1) ++ [tyC ps[k].1]) := by unfold Hid; rw [List.take_succ_eq_append_getElem hkP, List.map_append]; rfl
     generalize ps[k] = p at *
     obtain ⟨t, v⟩ := p
     dsimp only at c3 c4 hzk hIk hsn hcer59 hcer57 hcer51 hr3
     generalize hT : (ps.take k).map (fun p => tyC p.1) = T at *
     have hTl : Hid (T.length = k) := by unfold Hid; rw [← hT, List.length_map, List.length_take]; omega
     have hP : Hid (Calls Tryz.prog 47 #[.string (S t)] wr fun e w' => (∃ m : Nat, e = .returned (.tuple #[.string (S (tyC t)), .int .i64 (if tyOk t = true then 0 else 40), .int .i64 (m : Int)])) ∧ Below wr.heap.size wr w') := rparse_ty t wr (by omega)
     have hK : Hid (∀ W, RowTab W → Calls Tryz.prog 34 #[.string (S v)] W fun e w' => (∃ m : Nat, e = .returned (.tuple #[.int .i64 (if utf v = true then 0 else 10), .int .i64 (m : Int)])) ∧ w' = W) := fun W h => rcheck_ty v W (by omega) h
     have hlt' : Hid (k < n) := hlt
     have hk8 : Hid (k ≤ 8) := by have := hlo.out; unfold Hid; omega
     obtain ⟨st, hst⟩ : ∃ st, S t = st := ⟨_, rfl⟩
     obtain ⟨sv', hsv⟩ : ∃ sv', S v = sv' := ⟨_, rfl⟩
     rw [hst] at c3 hP
     rw [hsv] at c4 hK hr3
     clear hst hsv hzk hkP hlt hk c4
     go_wp2_with fail
     refine hP.out.mono ?_
     rintro e W2 ⟨⟨m2, rfl⟩, hb2⟩
     have hBw : Hid (Below w.heap.size w W2) := hR.out.2.2.trans (hb2.mono hR.out.2.2.size)
     have hO2 : Hid (OwnS W2 w.heap.size (.slice ta k tc) T) := ownS_below hR.out.2.1 hb2
     have hR1 : Hid (∀ j, j < k → OkI ps j) := hR.out.1
     clear hb2 hP hR c3
     by_cases hty : tyOk t = true
     ·rw [if_pos hty]
      have hrow : Hid (Row W2 ta T) := (ownS_row hO2.out).1
      obtain ⟨sc, hsc⟩ : ∃ sc, S (tyC t) = sc := ⟨_, rfl⟩
      rw [hsc]
      have hcell : Hid (∀ j, j < k → ∃ (g o : Nat) (s : ByteArray), ta = some ⟨g, o, none⟩ ∧ W2.cell? ⟨g, o + j, none⟩ = some (.string s) ∧ ((s.toList == sc.toList) = true → tyC t ∈ T) ∧ ((s.toList == sc.toList) = false → ¬ T[j]? = some (tyC t))) := fun j hj => by
       have hjT : j < T.length := by rw [hTl.out]; exact hj
       obtain ⟨g, o, e, h⟩ := hrow.out j hjT
       refine ⟨g, o, S T[j], e, h, fun q => ?_, fun q => ?_⟩
       ·rw [← hsc, Lib.toList_data, Lib.toList_data, S_l, S_l, beq_iff_eq] at q
        rw [← q]
        exact List.getElem_mem hjT
       ·rw [← hsc, Lib.toList_data, Lib.toList_data, S_l, S_l, beq_eq_false_iff_ne] at q
        rw [List.getElem?_eq_getElem hjT]
        intro e
        injection e with e
        exact q e
      have hC2 : Hid (tyC t ∈ T → rerr ps = 57) := fun h => hcer57.out hty h
      clear hcer57 hcer59 hrow
      go_wp2_with fail
      go_loop [8] (fun jv => ∃ j : Nat, j ≤ k ∧ jv = .int .i64 (j : Int) ∧ Hid (∀ i, i < j → ¬ T[i]? = some (tyC t))) (fun jv => k - (intOf jv).toNat)
      case atStart => exact ⟨0, Nat.zero_le _, rfl, fun i hi => by omega⟩
      case round =>
       obtain ⟨j, hj, rfl, hno⟩ := hrel
       have j0 : (0 : Int) ≤ (j : Int) := Int.natCast_nonneg _
       by_cases hjl : j < k
       ·have j1 : (j : Int) < (k : Int) := Int.ofNat_lt.2 hjl
        obtain ⟨g, o, s, rfl, c5, q1, q2⟩ := hcell.out j hjl
        by_cases hq : (s.toList == sc.toList) = true
        ·have hno' : Hid (rerr ps = 57) := hC2.out (q1 hq)
         clear q1 q2 hcell hno hcer51 hC2 hIk hK hR1
         go_wp2_with fail
         go_ret
         exact ⟨by rw [hno'.out]; rfl, hBw.out⟩
        ·rw [Bool.not_eq_true] at hq
         have hno' : Hid (∀ i, i < j + 1 → ¬ T[i]? = some (tyC t)) := fun i hi => by
          by_cases e : i = j
          ·rw [e]; exact q2 hq
          ·exact hno.out i (by omega)
         clear q1 q2 hcell hno hcer51 hC2 hIk hK hR1
         go_wp2_with fail
         go_round
         case rel => exact ⟨j + 1, hjl, by go_num, hno'⟩
         case measure => simp [intOf]; omega
       ·have hje : j = k := by omega
        subst hje
        have hin : Hid (tyC t ∉ T) := fun h => by
         obtain ⟨i, hi, e⟩ := List.getElem_of_mem h
         exact hno.out i (by rw [← hTl.out]; exact hi) (by rw [List.getElem?_eq_getElem hi, e])
        have i1 : ¬ (j : Int) < (j : Int) := by omega
        obtain ⟨v3, W3, e3', o3, b3⟩ := append_row (W2.alloc (.cells #[.string sc] 9)) w.heap.size (.slice ta j tc) T [tyC t] (some ⟨W2.heap.size, 0, none⟩) 1 1 (ownS_below hO2.out ((Below.refl _ _).alloc (Nat.le_refl _) _)) (by rw [← hsc]; exact row_one _ _) rfl (by have := hBw.out.size; simp; omega) (by have := hTl.out; have := hk8.out; simp; omega)
        obtain ⟨ta', tc', rfl, _⟩ : ∃ ta' tc', v3 = .slice ta' (j + 1) tc' ∧ True := by
         have hl3 : (T ++ [tyC t]).length = j + 1 := by rw [List.length_append, hTl.out]; rfl
         rcases ownS_formD o3 with ⟨_, h0⟩ | ⟨g, cap, e, _⟩
         ·rw [h0] at hl3; simp at hl3
         ·exact ⟨_, _, by rw [e, hl3], trivial⟩
        have hB3 : Hid (Below w.heap.size w W3) := (hBw.out.alloc hBw.out.size _).trans b3
        have c6 := hr3.out W3 hB3.out
        have hK3 : Hid (Calls Tryz.prog 34 #[.string sv'] W3 fun e w' => (∃ m : Nat, e = .returned (.tuple #[.int .i64 (if utf v = true then 0 else 10), .int .i64 (m : Int)])) ∧ w' = W3) := hK.out W3 (rowTab_below hG'.out hB3.out)
        by_cases hut : utf v = true
        ·rw [if_pos hut] at hK3
         have hfin : Hid ((∀ i, i < j + 1 → OkI ps i) ∧ OwnS W3 w.heap.size (.slice ta' (j + 1) tc') ((ps.take (j + 1)).map fun p => tyC p.1) ∧ Below w.heap.size w W3) := by
          refine ⟨fun i hi => ?_, by rw [hsn.out]; exact o3, hB3.out⟩
          by_cases e : i = j
          ·rw [e]; exact hIk.out hty hin.out hut
          ·exact hR1.out i (by omega)
         clear o3 b3 hIk hR1 hO2 hsn hTl hT hty hin hut hBw hcell hno hcer51 hC2 hK hB3 hr3
         go_wp2_with (first
          | (go_at_call 34; refine hK3.out.mono ?_; rintro e w' ⟨⟨m3, rfl⟩, rfl⟩)
          | (at_builtin; refine Lib.wpList_append_run _ rfl _ _ _ _ rfl _ _ rfl rfl _ _ e3' ?_; clear e3'))
         go_roundw
         case rel => exact ⟨j + 1, ta', tc', hlt'.out, by go_num, rfl, hfin⟩
         case measure => have := hlt'.out; simp [intOf]; omega
        ·rw [if_neg hut] at hK3
         have hno' : Hid (rerr ps = 51) := hcer51.out hty hin.out hut
         clear o3 b3 hIk hR1 hO2 hsn hTl hT hty hin hut hBw hcell hno hcer51 hC2 hK hr3
         go_wp2_with (first
          | (go_at_call 34; refine hK3.out.mono ?_; rintro e w' ⟨⟨m3, rfl⟩, rfl⟩)
          | (at_builtin; refine Lib.wpList_append_run _ rfl _ _ _ _ rfl _ _ rfl rfl _ _ e3' ?_; clear e3'))
         go_ret
         exact ⟨by rw [hno'.out]; rfl, hB3.out⟩
     ·rw [if_neg hty]
      have hno : Hid (rerr ps = 59) := hcer59.out hty
      clear hIk hK hty hR1 hO2 hsn hTl hT hcer51 hcer57 hcer59 hr3
      go_wp2_with fail
      go_ret
      exact ⟨by rw [hno.out]; rfl, hBw.out⟩
    ·have e : n = k := by omega
     subst e
     have i1 : ¬ (n : Int) < (n : Int) := by omega
     have hfin : Hid (rerr ps = 0 ∧ Below w.heap.size w wr) := ⟨rer_ok ⟨by rw [hn'.out]; exact hlo.out.1, by rw [hn'.out]; exact hlo.out.2, fun i hi => hR.out.1 i (by rw [← hn'.out]; exact hi)⟩, hR.out.2.2⟩
     clear hR hk hlt
     go_wp2_with fail
     go_ret
     exact ⟨by rw [hfin.out.1]; rfl, hfin.out.2⟩
end Ke
end Go.Proofs.YtkknenmpdimdbaaGreatDoor

namespace Go.Proofs.YtkknenmpdimdbaaGreatDoor
namespace Ke
open Go.RowKit
open TextMath (fold lo normal check)
open Du (PRow DRow PX sd sd_len drow_at pV pV_len prow_at)
set_option linter.unusedVariables false
set_option linter.unusedSimpArgs false
set_option maxRecDepth 100000
theorem sdAt (L : List PX) (k : Nat) (h : k < L.length) : (sd L)[k]'(by rw [sd_len]; exact h) = L[k].2.2 := by simp [sd]
def Fs (D : List (List PR)) (k : Nat) : Prop := ∃ h : k < D.length, (∀ j (h' : j < k), cer (D[j]'(by omega)) (j : Int) = 0) ∧ cer D[k] (k : Int) ≠ 0
def Az (D : List (List PR)) : Prop := ∀ j (h : j < D.length), cer D[j] (j : Int) = 0
theorem fs_one {D : List (List PR)} {k m : Nat} (h : Fs D k) (h' : Fs D m) : k = m := by
 obtain ⟨hk, h1, h2⟩ := h
 obtain ⟨hm, h3, h4⟩ := h'
 rcases Nat.lt_trichotomy k m with q | q | q
 ·exact absurd (h3 k q) h2
 ·exact q
 ·exact absurd (h1 m q) h4
theorem fs_az {D : List (List PR)} {k : Nat} (h : Fs D k) (h' : Az D) : False := by
 obtain ⟨hk, _, h2⟩ := h
 exact h2 (h' k hk)
def NmF (w : World) (D : List (List PR)) (e : Ending) (w' : World) : Prop :=
 Below w.heap.size w w' ∧ ((Az D ∧ e = .returned (.tuple #[.int .i64 0, .int .i64 0])) ∨ (∃ k, ∃ h : k < D.length, Fs D k ∧ e = .returned (.tuple #[.int .i64 (cer D[k] (k : Int) : Int), .int .i64 (k : Int)])))
set_option maxHeartbeats 4000000 in
theorem name_any (sa : Option Addr) (sc n : Nat) (L : List PX) (w : World) (hG : RowTab w) (hn : L.length = n) (hr : DRow w sa L) (hz : ∀ r ∈ L, ∀ p ∈ r.2.2, p.1.length + p.2.length ≤ 4194300) (hzl : ∀ r ∈ L, r.2.2.length ≤ 1073741824) (hnb : n ≤ 1073741824) :
  Calls Tryz.prog 44 #[.slice sa n sc] w fun e w' => NmF w (sd L) e w' := by
 have nb : (n : Int) ≤ 1073741824 := by omega
 have hn' : Hid (L.length = n) := hn
 have hr' : Hid (DRow w sa L) := hr
 have hG' : Hid (RowTab w) := hG
 have hz' : Hid ((∀ r ∈ L, ∀ p ∈ r.2.2, p.1.length + p.2.length ≤ 4194300) ∧ ∀ r ∈ L, r.2.2.length ≤ 1073741824) := ⟨hz, hzl⟩
 clear hG hn hr hz hzl hnb
 go_enter Tryz.func44, Tryz.ntmps44
 go_wp2_with fail
 go_loopw [4] (fun iv wr => ∃ k : Nat, k ≤ n ∧ iv = .int .i64 (k : Int) ∧ Hid ((∀ j (h : j < L.length), j < k → cer L[j].2.2 (j : Int) = 0) ∧ Below w.heap.size w wr)) (fun iv _ => n - (intOf iv).toNat)
 case atStart => exact ⟨0, Nat.zero_le _, rfl, fun j _ hj => by omega, Below.refl _ _⟩
 case round =>
  obtain ⟨k, hk, rfl, hR⟩ := hrel
  have k0 : (0 : Int) ≤ (k : Int) := Int.natCast_nonneg _
  by_cases hlt : k < n
  ·have k1 : (k : Int) < (n : Int) := Int.ofNat_lt.2 hlt
   have hkL : k < L.length := by rw [hn'.out]; exact hlt
   have hbad : Hid (cer L[k].2.2 (k : Int) ≠ 0 → ∃ h : k < (sd L).length, Fs (sd L) k ∧ cer (sd L)[k] (k : Int) = cer L[k].2.2 (k : Int)) := fun h => by
    have hk' : k < (sd L).length := by rw [sd_len]; exact hkL
    have e : (sd L)[k] = L[k].2.2 := sdAt L k hkL
    refine ⟨hk', ⟨hk', fun j hj => ?_, by rw [e]; exact h⟩, by rw [e]⟩
    rw [sdAt L j (by omega)]
    exact hR.out.1 j (by omega) hj
   have hsn : Hid (cer L[k].2.2 (k : Int) = 0 → ∀ j (h : j < L.length), j < k + 1 → cer L[j].2.2 (j : Int) = 0) := fun h j hj hjk => by
    by_cases e : j = k
    ·subst e; exact h
    ·exact hR.out.1 j hj (by omega)
   have hBw : Hid (Below w.heap.size w wr) := hR.out.2
   by_cases h64 : k = 64
   ·subst h64
    have hc : cer L[64].2.2 ((64 : Nat) : Int) = 58 := by unfold cer; rw [if_pos (by decide)]
    have hfin : Hid (NmF w (sd L) (.returned (.tuple #[.int .i64 58, .int .i64 64])) wr) := by
     obtain ⟨q1, q2, q3⟩ := hbad.out (by rw [hc]; decide)
     exact ⟨hBw.out, Or.inr ⟨64, q1, q2, by rw [q3, hc]; rfl⟩⟩
    clear hc hbad hsn hR hk hlt hkL
    go_wp2_with fail
    go_ret2
    exact hfin.out
   ·have k64 : ((k : Int) == 64) = false := by rw [beq_eq_false_iff_ne]; omega
    have hRw := hr'.out.below hR.out.2
    obtain ⟨b, off, rfl, c1⟩ := drow_at hRw k hkL
    have hT : Hid (Calls Tryz.prog 46 #[.slice L[k].1 L[k].2.2.length L[k].2.1] wr fun e w' => e = .returned (.int .i64 (rerr L[k].2.2 : Int)) ∧ Below wr.heap.size wr w') := wrong_any _ _ _ _ wr (rowTab_below hG'.out hBw.out) rfl (hRw.2 _ (List.getElem_mem hkL)).1 (hz'.out.1 _ (List.getElem_mem hkL)) (by have := hz'.out.2 _ (List.getElem_mem hkL); omega)
    have hce : Hid (k < 64 → cer L[k].2.2 (k : Int) = rerr L[k].2.2) := fun h => by unfold cer; rw [if_neg (by omega)]
    have hce' : Hid (64 ≤ k → False) := fun h => by
     have h2 := hR.out.1 64 (by omega) (by omega)
     unfold cer at h2
     rw [if_pos (by decide)] at h2
     exact absurd h2 (by decide)
    have hlt' : Hid (k < n) := hlt
    have hce2 : Hid (cer L[k].2.2 (k : Int) = rerr L[k].2.2) := by
     rcases Nat.lt_or_ge k 64 with h | h
     ·exact hce.out h
     ·exact (hce'.out h).elim
    rw [hce2.out] at hbad hsn
    generalize L[k] = r at *
    obtain ⟨pa, pc, ps⟩ := r
    dsimp only at c1 hT hbad hsn
    generalize ps.length = m at *
    have hgo : Hid (∀ W1, Below wr.heap.size wr W1 → Below w.heap.size w W1) := fun W1 hb => hR.out.2.trans (hb.mono hR.out.2.size)
    clear hk hlt hkL hRw hce hce' hce2 hR
    go_wp2_with fail
    refine hT.out.mono ?_
    rintro e W1 ⟨rfl, hb1⟩
    have hb1' : Hid (Below w.heap.size w W1) := hgo.out W1 hb1
    by_cases hq : rerr ps = 0
    ·have hfin : Hid ((∀ j (h : j < L.length), j < k + 1 → cer L[j].2.2 (j : Int) = 0) ∧ Below w.heap.size w W1) := ⟨hsn.out hq, hb1'.out⟩
     rw [hq]
     clear hb1 hT hbad hsn hgo hBw hq
     go_wp2_with fail
     go_roundw
     case rel => exact ⟨k + 1, hlt'.out, by go_num, hfin⟩
     case measure => have := hlt'.out; simp [intOf]; omega
    ·have hfin : Hid (NmF w (sd L) (.returned (.tuple #[.int .i64 (rerr ps : Int), .int .i64 (k : Int)])) W1) := by
      obtain ⟨q1, q2, q3⟩ := hbad.out hq
      exact ⟨hb1'.out, Or.inr ⟨k, q1, q2, by rw [q3]⟩⟩
     have hq' : (((rerr ps : Nat) : Int) == 0) = false := by rw [beq_eq_false_iff_ne]; omega
     generalize rerr ps = rr at *
     clear hb1 hT hbad hsn hgo hBw hq
     go_wp2_with fail
     go_ret2
     exact hfin.out
  ·have e : n = k := by omega
   subst e
   have i1 : ¬ (n : Int) < (n : Int) := by omega
   have hfin : Hid (NmF w (sd L) (.returned (.tuple #[.int .i64 0, .int .i64 0])) wr) := by
    refine ⟨hR.out.2, Or.inl ⟨fun j hj => ?_, rfl⟩⟩
    have hj' : j < L.length := by rw [sd_len] at hj; exact hj
    rw [sdAt L j hj']
    exact hR.out.1 j hj' (by rw [← hn'.out]; exact hj')
   clear hR hk hlt
   go_wp2_with fail
   go_ret2
   exact hfin.out
def dtT (D : List (List PR)) : List UInt8 := D.flatMap fun r => 44 :: ptx r
def dtx : List (List PR) → List UInt8
 | [] => []
 | r :: t => ptx r ++ dtT t
theorem dtx_snoc (l : List (List PR)) (p : List PR) : dtx (l ++ [p]) = dtx l ++ (if l = [] then ptx p else 44 :: ptx p) := by
 cases l with
 | nil => simp [dtx, dtT]
 | cons r t => simp [dtx, dtT]
def rW (ps : List PR) : Nat := (ps.map ptW).sum + 1
def dW (D : List (List PR)) : Nat := (D.map rW).sum
theorem dtT_len (D : List (List PR)) : (dtT D).length ≤ dW D := by
 induction D with
 | nil => simp [dtT]
 | cons p l ih =>
  have := ptx_len p
  unfold dtT dW at ih ⊢
  simp only [List.flatMap_cons, List.length_append, List.length_cons, List.map_cons, List.sum_cons]
  have hr : rW p = (p.map ptW).sum + 1 := rfl
  omega
theorem dtx_len (D : List (List PR)) : (dtx D).length ≤ dW D := by
 cases D with
 | nil => simp [dtx]
 | cons p l =>
  have := ptx_len p
  have := dtT_len l
  simp only [dtx, List.length_append]
  unfold dW at this ⊢
  simp only [List.map_cons, List.sum_cons]
  have hr : rW p = (p.map ptW).sum + 1 := rfl
  omega
theorem dW_at (D : List (List PR)) (k : Nat) (h : k < D.length) : dW (D.take k) + rW D[k] ≤ dW D := by
 have e : dW D = dW (D.take (k + 1)) + dW (D.drop (k + 1)) := by unfold dW; rw [← List.sum_append, ← List.map_append, List.take_append_drop]
 have e2 : dW (D.take (k + 1)) = dW (D.take k) + rW D[k] := by unfold dW; rw [List.take_succ_eq_append_getElem h, List.map_append, List.sum_append]; simp
 omega
theorem own_form {W : World} {B : Nat} {v : Value} {l : List UInt8} (h : Own W B v l) : ∃ a c, v = .slice a l.length c := by
 rcases h.2 with ⟨rfl, hn⟩ | ⟨g, cap, cur, rfl, hrest⟩
 ·exact ⟨none, 0, by rw [hn]⟩
 ·exact ⟨_, _, rfl⟩
theorem own_bn {W : World} {B bn bc : Nat} {ba : Option Addr} {l : List UInt8} (h : Own W B (.slice ba bn bc) l) : bn = l.length := by
 obtain ⟨a, c, e⟩ := own_form h
 injection e with e1 e2 e3
end Ke
end Go.Proofs.YtkknenmpdimdbaaGreatDoor
