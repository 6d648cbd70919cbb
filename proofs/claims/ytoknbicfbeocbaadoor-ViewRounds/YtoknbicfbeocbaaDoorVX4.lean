import Derived.Test.YtoknbicfbeocbaaDoorChX
namespace Go.Proofs.YtoknbicfbeocbaaDoor
open Go.RowKit
open TextMath (ld wi seqLen check u)

def ROWS : List (List Int) := [[1, 0, 127, 0, 0, 0, 0, 0, 0], [2, 194, 223, 128, 191, 0, 0, 0, 0], [3, 224, 224, 160, 191, 128, 191, 0, 0], [3, 225, 236, 128, 191, 128, 191, 0, 0], [3, 237, 237, 128, 159, 128, 191, 0, 0], [3, 238, 239, 128, 191, 128, 191, 0, 0],
  [4, 240, 240, 144, 191, 128, 191, 128, 191], [4, 241, 243, 128, 191, 128, 191, 128, 191], [4, 244, 244, 128, 143, 128, 191, 128, 191]]
def R (r c : Nat) : Int := (ROWS.getD r []).getD c 0
/-- The row's sequence stands at the head of the text. -/
def fit (r : Nat) (l : List UInt8) : Prop := R r 0 ≤ l.length ∧ ∀ k : Nat, (k : Int) < R r 0 → R r (1 + 2 * k) ≤ u (l.getD k 0) ∧ u (l.getD k 0) ≤ R r (2 + 2 * k)

/-- The table lies in its variable. -/
def RowTab (w : World) : Prop := ∀ r c, r < 9 → c < 9 → w.cell? ⟨0, r * 9 + c, none⟩ = some (.int .i64 (R r c))

theorem R_small : ∀ r : Fin 9, 1 ≤ R r.val 0 ∧ R r.val 0 ≤ 4 := by decide

theorem drop_getD (l : List UInt8) (i k : Nat) : (l.drop i).getD k 0 = l.getD (i + k) 0 := by simp [List.getD, List.getElem?_drop]

theorem fit_of (s : ByteArray) (i r n : Nat) (hn : R r 0 = n) (hf : i + n ≤ s.size) (h : ∀ k, k < n → R r (1 + 2 * k) ≤ u (s.data.toList.getD (i + k) 0) ∧ u (s.data.toList.getD (i + k) 0) ≤ R r (2 + 2 * k)) : fit r (s.data.toList.drop i) := by
  refine ⟨?_, fun k hk => ?_⟩
  · rw [hn, List.length_drop, size_l]; omega
  · rw [drop_getD]; rw [hn] at hk; exact h k (by omega)
theorem fit_not (s : ByteArray) (i r n k : Nat) (hn : R r 0 = n) (hk : k < n) (h : u (s.data.toList.getD (i + k) 0) < R r (1 + 2 * k) ∨ R r (2 + 2 * k) < u (s.data.toList.getD (i + k) 0)) : ¬ fit r (s.data.toList.drop i) := by
  intro hf
  have := hf.2 k (by rw [hn]; omega)
  rw [drop_getD] at this
  omega
theorem fit_short (s : ByteArray) (i r : Nat) (hi : i ≤ s.size) (h : (s.size : Int) < i + R r 0) : ¬ fit r (s.data.toList.drop i) := by
  intro hf
  have := hf.1
  rw [List.length_drop, size_l] at this
  omega

set_option maxHeartbeats 1000000 in
/-- What fits answers: true just where the row's sequence stands there. -/
theorem fits_any (s : ByteArray) (i r : Nat) (w : World) (hm : s.size ≤ 140737488355328) (hi : i ≤ s.size) (hr : r < 9) (ht : RowTab w) :
    Calls Tryd.prog 26 #[.string s, .int .i64 (i : Int), .int .i64 (r : Int)] w fun e w' => (∃ b, e = .returned (.bool b) ∧ (b = true ↔ fit r (s.data.toList.drop i))) ∧ w = w' := by
  have hc0 := ht r 0 hr (by omega)
  rw [Nat.add_zero] at hc0
  have hR := R_small ⟨r, hr⟩
  simp only [] at hR
  obtain ⟨n, hn⟩ : ∃ n : Nat, R r 0 = n := ⟨(R r 0).toNat, by omega⟩
  rw [hn] at hc0 hR
  have hn4 : n ≤ 4 := by omega
  have hr' : (r : Int) < 9 := by omega
  have HN : Hid (R r 0 = n) := hn
  clear hn hR
  by_cases hf : s.size < i + n
  · have hno : Hid (¬ fit r (s.data.toList.drop i)) := fit_short s i r hi (by rw [HN.out]; omega)
    go_enter Tryd.func26, Tryd.ntmps26
    go_wp2
    go_ret
    exact ⟨⟨false, rfl, by simp [hno.out]⟩, rfl⟩
  · go_enter Tryd.func26, Tryd.ntmps26
    go_wp2
    go_loop [8] (fun t => ∃ k : Nat, k ≤ n ∧ t = .int .i64 k ∧ Hid (∀ j, j < k → R r (1 + 2 * j) ≤ u (s.data.toList.getD (i + j) 0) ∧ u (s.data.toList.getD (i + j) 0) ≤ R r (2 + 2 * j))) (fun t => n - (intOf t).toNat)
    case atStart => exact ⟨0, Nat.zero_le _, rfl, fun _ h => by omega⟩
    case round =>
      obtain ⟨k, hk, rfl, hall⟩ := hrel
      by_cases hlt : k < n
      · have c1 := ht r (1 + 2 * k) hr (by omega)
        have c2 := ht r (2 + 2 * k) hr (by omega)
        have e1 : ((1 : Int) + 2 * (k : Int)).toNat = 1 + 2 * k := by omega
        have e2 : ((2 : Int) + 2 * (k : Int)).toNat = 2 + 2 * k := by omega
        have hik : i + k < s.size := by omega
        have hg := getD_s s (i + k) hik
        have e3 : ((i : Int) + (k : Int)).toNat = i + k := by omega
        have hyes : Hid (R r (1 + 2 * k) ≤ (s[i + k].toNat : Int) ∧ (s[i + k].toNat : Int) ≤ R r (2 + 2 * k) → ∀ j, j < k + 1 → R r (1 + 2 * j) ≤ u (s.data.toList.getD (i + j) 0) ∧ u (s.data.toList.getD (i + j) 0) ≤ R r (2 + 2 * j)) := by
          intro h j hj
          by_cases e : j = k
          · subst e; rw [hg]; exact h
          · exact hall.out j (by omega)
        have hnot : Hid ((s[i + k].toNat : Int) < R r (1 + 2 * k) ∨ R r (2 + 2 * k) < (s[i + k].toNat : Int) → ¬ fit r (s.data.toList.drop i)) := fun h => fit_not s i r n k HN.out hlt (by rw [hg]; exact h)
        generalize R r (1 + 2 * k) = la at *
        generalize R r (2 + 2 * k) = lb at *
        have hb256 : s[i + k].toNat < 256 := s[i + k].toNat_lt
        clear hall hg
        by_cases t1 : (s[i + k].toNat : Int) < la
        · have hno := hnot.out (Or.inl t1)
          have HNO : Hid (¬ fit r (s.data.toList.drop i)) := hno
          clear hno hnot hyes
          go_wp2
          go_ret
          exact ⟨⟨false, rfl, by simp [HNO.out]⟩, rfl⟩
        · have d1 : decide ((s[i + k].toNat : Int) < la) = false := by simpa using t1
          by_cases t2 : lb < (s[i + k].toNat : Int)
          · have HNO : Hid (¬ fit r (s.data.toList.drop i)) := hnot.out (Or.inr t2)
            clear hnot hyes
            go_wp2
            go_ret
            exact ⟨⟨false, rfl, by simp [HNO.out]⟩, rfl⟩
          · have HY : Hid (_) := hyes.out ⟨by omega, by omega⟩
            have d2 : decide (lb < (s[i + k].toNat : Int)) = false := by simpa using t2
            clear hnot hyes
            go_wp2
            go_round
            case rel => exact ⟨k + 1, by omega, by go_num, HY⟩
            case measure => simp [intOf]; omega
      · have hke : k = n := by omega
        have HF : Hid (fit r (s.data.toList.drop i)) := fit_of s i r n HN.out (by omega) (by rw [← hke]; exact hall.out)
        clear hall hke
        go_wp2
        go_ret
        exact ⟨Or.inr ⟨rfl, HF.out⟩, rfl⟩
end Go.Proofs.YtoknbicfbeocbaaDoor

namespace Go.Proofs.YtoknbicfbeocbaaDoor
open Go.RowKit
open TextMath (ld wi seqLen check u)

theorem wi_false (b lo hi : Int) : wi b lo hi = false ↔ ¬ (lo ≤ b ∧ b ≤ hi) := by
  unfold wi; rw [Bool.eq_false_iff, ne_eq, Bool.and_eq_true, decide_eq_true_eq, decide_eq_true_eq]

theorem seqLen_intro (l : List UInt8) (n lo hi : Int) (h : ld (u (l.getD 0 0)) = (n, lo, hi)) (hl : n ≤ l.length) (h3 : n = 4 → 128 ≤ u (l.getD 3 0) ∧ u (l.getD 3 0) ≤ 191)
    (h2 : n = 4 ∨ n = 3 → 128 ≤ u (l.getD 2 0) ∧ u (l.getD 2 0) ≤ 191) (h1 : n = 4 ∨ n = 3 ∨ n = 2 → lo ≤ u (l.getD 1 0) ∧ u (l.getD 1 0) ≤ hi) : (seqLen l : Int) = n.toNat := by
  unfold seqLen
  simp only [h]
  rw [if_neg (by omega), if_neg, if_neg, if_neg]
  · rintro ⟨a, b⟩; exact (wi_false _ _ _).1 b (h1 a)
  · rintro ⟨a, b⟩; exact (wi_false _ _ _).1 b (h2 a)
  · rintro ⟨a, b⟩; exact (wi_false _ _ _).1 b (h3 a)
theorem seqLen_elim (l : List UInt8) (n lo hi : Int) (h : ld (u (l.getD 0 0)) = (n, lo, hi)) (h0 : seqLen l ≠ 0) : n ≤ l.length ∧ (n = 4 → 128 ≤ u (l.getD 3 0) ∧ u (l.getD 3 0) ≤ 191) ∧
    (n = 4 ∨ n = 3 → 128 ≤ u (l.getD 2 0) ∧ u (l.getD 2 0) ≤ 191) ∧ (n = 4 ∨ n = 3 ∨ n = 2 → lo ≤ u (l.getD 1 0) ∧ u (l.getD 1 0) ≤ hi) ∧ n ≠ 0 := by
  unfold seqLen at h0
  simp only [h] at h0
  split at h0
  · exact absurd rfl h0
  split at h0
  · exact absurd rfl h0
  split at h0
  · exact absurd rfl h0
  split at h0
  · exact absurd rfl h0
  rename_i a b c d
  refine ⟨by omega, fun e => ?_, fun e => ?_, fun e => ?_, fun e => h0 (by rw [e]; rfl)⟩
  · by_cases hx : 128 ≤ u (l.getD 3 0) ∧ u (l.getD 3 0) ≤ 191
    · exact hx
    · exact absurd ⟨e, (wi_false _ _ _).2 hx⟩ b
  · by_cases hx : 128 ≤ u (l.getD 2 0) ∧ u (l.getD 2 0) ≤ 191
    · exact hx
    · exact absurd ⟨e, (wi_false _ _ _).2 hx⟩ c
  · by_cases hx : lo ≤ u (l.getD 1 0) ∧ u (l.getD 1 0) ≤ hi
    · exact hx
    · exact absurd ⟨e, (wi_false _ _ _).2 hx⟩ d

theorem fit_mk (r : Nat) (l : List UInt8) (n : Nat) (hn : R r 0 = n) (h4 : n ≤ 4) (hl : n ≤ l.length) (h : ∀ k, k < 4 → k < n → R r (1 + 2 * k) ≤ u (l.getD k 0) ∧ u (l.getD k 0) ≤ R r (2 + 2 * k)) : fit r l :=
  ⟨by rw [hn]; omega, fun k hk => by rw [hn] at hk; exact h k (by omega) (by omega)⟩

theorem seq_fit (r : Nat) (hr : r < 9) (l : List UInt8) (h : fit r l) : (seqLen l : Int) = R r 0 := by
  obtain ⟨hl, hk⟩ := h
  match r, hr with
  | 0, _ =>
    have k0 := hk 0 (by decide)
    have hl' : (1 : Int) ≤ l.length := hl
    have a0 : (0 : Int) ≤ u (l.getD 0 0) ∧ u (l.getD 0 0) ≤ 127 := k0
    exact seqLen_intro l 1 0 0 (by unfold ld; rw [if_pos (by omega)]) hl' (by omega) (by omega) (by omega)
  | 1, _ =>
    have hl' : (2 : Int) ≤ l.length := hl
    have a0 : (194 : Int) ≤ u (l.getD 0 0) ∧ u (l.getD 0 0) ≤ 223 := hk 0 (by decide)
    have a1 : (128 : Int) ≤ u (l.getD 1 0) ∧ u (l.getD 1 0) ≤ 191 := hk 1 (by decide)
    exact seqLen_intro l 2 128 191 (by unfold ld; rw [if_neg (by omega), if_neg (by omega), if_pos (by omega)]) hl' (by omega) (by omega) (fun _ => a1)
  | 2, _ =>
    have hl' : (3 : Int) ≤ l.length := hl
    have a0 : (224 : Int) ≤ u (l.getD 0 0) ∧ u (l.getD 0 0) ≤ 224 := hk 0 (by decide)
    have a1 : (160 : Int) ≤ u (l.getD 1 0) ∧ u (l.getD 1 0) ≤ 191 := hk 1 (by decide)
    have a2 : (128 : Int) ≤ u (l.getD 2 0) ∧ u (l.getD 2 0) ≤ 191 := hk 2 (by decide)
    exact seqLen_intro l 3 160 191 (by unfold ld; rw [if_neg (by omega), if_neg (by omega), if_neg (by omega), if_pos (by omega)]) hl' (by omega) (fun _ => a2) (fun _ => a1)
  | 3, _ =>
    have hl' : (3 : Int) ≤ l.length := hl
    have a0 : (225 : Int) ≤ u (l.getD 0 0) ∧ u (l.getD 0 0) ≤ 236 := hk 0 (by decide)
    have a1 : (128 : Int) ≤ u (l.getD 1 0) ∧ u (l.getD 1 0) ≤ 191 := hk 1 (by decide)
    have a2 : (128 : Int) ≤ u (l.getD 2 0) ∧ u (l.getD 2 0) ≤ 191 := hk 2 (by decide)
    exact seqLen_intro l 3 128 191 (by unfold ld; rw [if_neg (by omega), if_neg (by omega), if_neg (by omega), if_neg (by omega), if_neg (by omega), if_pos (by omega)]) hl' (by omega) (fun _ => a2) (fun _ => a1)
  | 4, _ =>
    have hl' : (3 : Int) ≤ l.length := hl
    have a0 : (237 : Int) ≤ u (l.getD 0 0) ∧ u (l.getD 0 0) ≤ 237 := hk 0 (by decide)
    have a1 : (128 : Int) ≤ u (l.getD 1 0) ∧ u (l.getD 1 0) ≤ 159 := hk 1 (by decide)
    have a2 : (128 : Int) ≤ u (l.getD 2 0) ∧ u (l.getD 2 0) ≤ 191 := hk 2 (by decide)
    exact seqLen_intro l 3 128 159 (by unfold ld; rw [if_neg (by omega), if_neg (by omega), if_neg (by omega), if_neg (by omega), if_pos (by omega)]) hl' (by omega) (fun _ => a2) (fun _ => a1)
  | 5, _ =>
    have hl' : (3 : Int) ≤ l.length := hl
    have a0 : (238 : Int) ≤ u (l.getD 0 0) ∧ u (l.getD 0 0) ≤ 239 := hk 0 (by decide)
    have a1 : (128 : Int) ≤ u (l.getD 1 0) ∧ u (l.getD 1 0) ≤ 191 := hk 1 (by decide)
    have a2 : (128 : Int) ≤ u (l.getD 2 0) ∧ u (l.getD 2 0) ≤ 191 := hk 2 (by decide)
    exact seqLen_intro l 3 128 191 (by unfold ld; rw [if_neg (by omega), if_neg (by omega), if_neg (by omega), if_neg (by omega), if_neg (by omega), if_pos (by omega)]) hl' (by omega) (fun _ => a2) (fun _ => a1)
  | 6, _ =>
    have hl' : (4 : Int) ≤ l.length := hl
    have a0 : (240 : Int) ≤ u (l.getD 0 0) ∧ u (l.getD 0 0) ≤ 240 := hk 0 (by decide)
    have a1 : (144 : Int) ≤ u (l.getD 1 0) ∧ u (l.getD 1 0) ≤ 191 := hk 1 (by decide)
    have a2 : (128 : Int) ≤ u (l.getD 2 0) ∧ u (l.getD 2 0) ≤ 191 := hk 2 (by decide)
    have a3 : (128 : Int) ≤ u (l.getD 3 0) ∧ u (l.getD 3 0) ≤ 191 := hk 3 (by decide)
    exact seqLen_intro l 4 144 191 (by unfold ld; rw [if_neg (by omega), if_neg (by omega), if_neg (by omega), if_neg (by omega), if_neg (by omega), if_neg (by omega), if_pos (by omega)]) hl' (fun _ => a3) (fun _ => a2) (fun _ => a1)
  | 7, _ =>
    have hl' : (4 : Int) ≤ l.length := hl
    have a0 : (241 : Int) ≤ u (l.getD 0 0) ∧ u (l.getD 0 0) ≤ 243 := hk 0 (by decide)
    have a1 : (128 : Int) ≤ u (l.getD 1 0) ∧ u (l.getD 1 0) ≤ 191 := hk 1 (by decide)
    have a2 : (128 : Int) ≤ u (l.getD 2 0) ∧ u (l.getD 2 0) ≤ 191 := hk 2 (by decide)
    have a3 : (128 : Int) ≤ u (l.getD 3 0) ∧ u (l.getD 3 0) ≤ 191 := hk 3 (by decide)
    exact seqLen_intro l 4 128 191 (by unfold ld; rw [if_neg (by omega), if_neg (by omega), if_neg (by omega), if_neg (by omega), if_neg (by omega), if_neg (by omega), if_neg (by omega), if_pos (by omega)]) hl' (fun _ => a3) (fun _ => a2) (fun _ => a1)
  | 8, _ =>
    have hl' : (4 : Int) ≤ l.length := hl
    have a0 : (244 : Int) ≤ u (l.getD 0 0) ∧ u (l.getD 0 0) ≤ 244 := hk 0 (by decide)
    have a1 : (128 : Int) ≤ u (l.getD 1 0) ∧ u (l.getD 1 0) ≤ 143 := hk 1 (by decide)
    have a2 : (128 : Int) ≤ u (l.getD 2 0) ∧ u (l.getD 2 0) ≤ 191 := hk 2 (by decide)
    have a3 : (128 : Int) ≤ u (l.getD 3 0) ∧ u (l.getD 3 0) ≤ 191 := hk 3 (by decide)
    exact seqLen_intro l 4 128 143 (by unfold ld; rw [if_neg (by omega), if_neg (by omega), if_neg (by omega), if_neg (by omega), if_neg (by omega), if_neg (by omega), if_neg (by omega), if_neg (by omega), if_pos (by omega)]) hl' (fun _ => a3) (fun _ => a2) (fun _ => a1)

theorem fit1 (r : Nat) (l : List UInt8) (a b : Int) (hr : ROWS.getD r [] = [1, a, b, 0, 0, 0, 0, 0, 0]) (hl : 1 ≤ (l.length : Int)) (h0 : a ≤ u (l.getD 0 0) ∧ u (l.getD 0 0) ≤ b) : fit r l := by
  have hR : ∀ c, R r c = ([1, a, b, 0, 0, 0, 0, 0, 0] : List Int).getD c 0 := fun c => by unfold R; rw [hr]
  refine fit_mk r l 1 (by rw [hR]; rfl) (by omega) (by omega) fun k hk hk1 => ?_
  obtain rfl : k = 0 := by omega
  rw [hR, hR]; exact h0
theorem fit2 (r : Nat) (l : List UInt8) (a b c d : Int) (hr : ROWS.getD r [] = [2, a, b, c, d, 0, 0, 0, 0]) (hl : 2 ≤ (l.length : Int)) (h0 : a ≤ u (l.getD 0 0) ∧ u (l.getD 0 0) ≤ b) (h1 : c ≤ u (l.getD 1 0) ∧ u (l.getD 1 0) ≤ d) : fit r l := by
  have hR : ∀ x, R r x = ([2, a, b, c, d, 0, 0, 0, 0] : List Int).getD x 0 := fun x => by unfold R; rw [hr]
  refine fit_mk r l 2 (by rw [hR]; rfl) (by omega) (by omega) fun k hk hk1 => ?_
  rw [hR, hR]
  match k, hk1 with
  | 0, _ => exact h0
  | 1, _ => exact h1
theorem fit3 (r : Nat) (l : List UInt8) (a b c d : Int) (hr : ROWS.getD r [] = [3, a, b, c, d, 128, 191, 0, 0]) (hl : 3 ≤ (l.length : Int)) (h0 : a ≤ u (l.getD 0 0) ∧ u (l.getD 0 0) ≤ b) (h1 : c ≤ u (l.getD 1 0) ∧ u (l.getD 1 0) ≤ d)
    (h2 : 128 ≤ u (l.getD 2 0) ∧ u (l.getD 2 0) ≤ 191) : fit r l := by
  have hR : ∀ x, R r x = ([3, a, b, c, d, 128, 191, 0, 0] : List Int).getD x 0 := fun x => by unfold R; rw [hr]
  refine fit_mk r l 3 (by rw [hR]; rfl) (by omega) (by omega) fun k hk hk1 => ?_
  rw [hR, hR]
  match k, hk1 with
  | 0, _ => exact h0
  | 1, _ => exact h1
  | 2, _ => exact h2
theorem fit4 (r : Nat) (l : List UInt8) (a b c d : Int) (hr : ROWS.getD r [] = [4, a, b, c, d, 128, 191, 128, 191]) (hl : 4 ≤ (l.length : Int)) (h0 : a ≤ u (l.getD 0 0) ∧ u (l.getD 0 0) ≤ b) (h1 : c ≤ u (l.getD 1 0) ∧ u (l.getD 1 0) ≤ d)
    (h2 : 128 ≤ u (l.getD 2 0) ∧ u (l.getD 2 0) ≤ 191) (h3 : 128 ≤ u (l.getD 3 0) ∧ u (l.getD 3 0) ≤ 191) : fit r l := by
  have hR : ∀ x, R r x = ([4, a, b, c, d, 128, 191, 128, 191] : List Int).getD x 0 := fun x => by unfold R; rw [hr]
  refine fit_mk r l 4 (by rw [hR]; rfl) (by omega) (by omega) fun k hk hk1 => ?_
  rw [hR, hR]
  match k, hk1 with
  | 0, _ => exact h0
  | 1, _ => exact h1
  | 2, _ => exact h2
  | 3, _ => exact h3

theorem seq_nofit (l : List UInt8) (h : ∀ r, r < 9 → ¬ fit r l) : seqLen l = 0 := by
  by_cases hz : seqLen l = 0
  · exact hz
  exfalso
  have hu : (0 : Int) ≤ u (l.getD 0 0) := by unfold u; omega
  obtain ⟨n, lo, hi, hq⟩ : ∃ n lo hi, ld (u (l.getD 0 0)) = (n, lo, hi) := ⟨_, _, _, rfl⟩
  obtain ⟨hl, h3, h2, h1, hn⟩ := seqLen_elim l n lo hi hq hz
  unfold ld at hq
  split at hq
  · obtain ⟨rfl, rfl, rfl⟩ : 1 = n ∧ 0 = lo ∧ 0 = hi := by simpa using hq
    exact h 0 (by omega) (fit1 0 l 0 127 rfl hl ⟨hu, by omega⟩)
  split at hq
  · obtain ⟨rfl, rfl, rfl⟩ : 0 = n ∧ 0 = lo ∧ 0 = hi := by simpa using hq
    exact hn rfl
  split at hq
  · obtain ⟨rfl, rfl, rfl⟩ : 2 = n ∧ 128 = lo ∧ 191 = hi := by simpa using hq
    exact h 1 (by omega) (fit2 1 l 194 223 128 191 rfl hl ⟨by omega, by omega⟩ (h1 (by omega)))
  split at hq
  · obtain ⟨rfl, rfl, rfl⟩ : 3 = n ∧ 160 = lo ∧ 191 = hi := by simpa using hq
    exact h 2 (by omega) (fit3 2 l 224 224 160 191 rfl hl ⟨by omega, by omega⟩ (h1 (by omega)) (h2 (by omega)))
  split at hq
  · obtain ⟨rfl, rfl, rfl⟩ : 3 = n ∧ 128 = lo ∧ 159 = hi := by simpa using hq
    exact h 4 (by omega) (fit3 4 l 237 237 128 159 rfl hl ⟨by omega, by omega⟩ (h1 (by omega)) (h2 (by omega)))
  split at hq
  · obtain ⟨rfl, rfl, rfl⟩ : 3 = n ∧ 128 = lo ∧ 191 = hi := by simpa using hq
    by_cases hx : u (l.getD 0 0) ≤ 236
    · exact h 3 (by omega) (fit3 3 l 225 236 128 191 rfl hl ⟨by omega, by omega⟩ (h1 (by omega)) (h2 (by omega)))
    · exact h 5 (by omega) (fit3 5 l 238 239 128 191 rfl hl ⟨by omega, by omega⟩ (h1 (by omega)) (h2 (by omega)))
  split at hq
  · obtain ⟨rfl, rfl, rfl⟩ : 4 = n ∧ 144 = lo ∧ 191 = hi := by simpa using hq
    exact h 6 (by omega) (fit4 6 l 240 240 144 191 rfl hl ⟨by omega, by omega⟩ (h1 (by omega)) (h2 (by omega)) (h3 (by omega)))
  split at hq
  · obtain ⟨rfl, rfl, rfl⟩ : 4 = n ∧ 128 = lo ∧ 191 = hi := by simpa using hq
    exact h 7 (by omega) (fit4 7 l 241 243 128 191 rfl hl ⟨by omega, by omega⟩ (h1 (by omega)) (h2 (by omega)) (h3 (by omega)))
  split at hq
  · obtain ⟨rfl, rfl, rfl⟩ : 4 = n ∧ 128 = lo ∧ 143 = hi := by simpa using hq
    exact h 8 (by omega) (fit4 8 l 244 244 128 143 rfl hl ⟨by omega, by omega⟩ (h1 (by omega)) (h2 (by omega)) (h3 (by omega)))
  · obtain ⟨rfl, rfl, rfl⟩ : 0 = n ∧ 0 = lo ∧ 0 = hi := by simpa using hq
    exact hn rfl

set_option maxHeartbeats 1000000 in
theorem rSequence_any (s : ByteArray) (i : Nat) (w : World) (hm : s.size ≤ 140737488355328) (hi : i ≤ s.size) (ht : RowTab w) :
    Calls Tryd.prog 11 #[.string s, .int .i64 (i : Int)] w fun e w' => e = .returned (.int .i64 (seqLen (s.data.toList.drop i) : Nat)) ∧ w = w' := by
  go_enter Tryd.func11, Tryd.ntmps11
  go_wp2
  go_loop [5] (fun t => ∃ k : Nat, k ≤ 9 ∧ t = .int .i64 k ∧ Hid (∀ r, r < k → ¬ fit r (s.data.toList.drop i))) (fun t => 9 - (intOf t).toNat)
  case atStart => exact ⟨0, Nat.zero_le _, rfl, fun _ h => by omega⟩
  case round =>
    obtain ⟨k, hk, rfl, hall⟩ := hrel
    by_cases hlt : k < 9
    · have hc0 := ht k 0 hlt (by omega)
      rw [Nat.add_zero] at hc0
      have hk' : (k : Int) < 9 := by omega
      by_cases hf : fit k (s.data.toList.drop i)
      · have hs := seq_fit k hlt _ hf
        have HS : Hid (R k 0 = (seqLen (s.data.toList.drop i) : Nat)) := hs.symm
        have hcall : ∀ W, RowTab W → Hid (Calls Tryd.prog 26 #[.string s, .int .i64 (i : Int), .int .i64 (k : Int)] W fun e w' => e = .returned (.bool true) ∧ W = w') := fun W hW => (fits_any s i k W hm hi hlt hW).mono fun e w' h => by
          obtain ⟨⟨b, hb, hiff⟩, hw⟩ := h
          rw [hiff.2 hf] at hb
          exact ⟨hb, hw⟩
        clear hs hf hall
        go_wp2_with (go_at_call 26; refine (hcall _ ht).out.mono ?_; rintro e w' ⟨rfl, rfl⟩)
        go_ret
        exact ⟨ret_int HS.out, rfl⟩
      · have hcall : ∀ W, RowTab W → Hid (Calls Tryd.prog 26 #[.string s, .int .i64 (i : Int), .int .i64 (k : Int)] W fun e w' => e = .returned (.bool false) ∧ W = w') := fun W hW => (fits_any s i k W hm hi hlt hW).mono fun e w' h => by
          obtain ⟨⟨b, hb, hiff⟩, hw⟩ := h
          have : b = false := by
            cases b
            · rfl
            · exact absurd (hiff.1 rfl) hf
          rw [this] at hb
          exact ⟨hb, hw⟩
        have HA : Hid (∀ r, r < k + 1 → ¬ fit r (s.data.toList.drop i)) := fun r hr => by
          by_cases e : r = k
          · subst e; exact hf
          · exact hall.out r (by omega)
        clear hf hall
        go_wp2_with (go_at_call 26; refine (hcall _ ht).out.mono ?_; rintro e w' ⟨rfl, rfl⟩)
        go_round
        case rel => exact ⟨k + 1, by omega, by go_num, HA⟩
        case measure => simp [intOf]; omega
    · have hz : Hid (seqLen (s.data.toList.drop i) = 0) := seq_nofit _ fun r hr => hall.out r (by omega)
      clear hall
      go_wp2
      go_ret
      exact ⟨ret_int (by rw [hz.out]; rfl), rfl⟩

set_option maxHeartbeats 400000 in
theorem rCheck_any (s : ByteArray) (w : World) (hm : s.size ≤ 140737488355328) (ht : RowTab w) :
    Calls Tryd.prog 5 #[.string s] w fun e w' => e = .returned (chkV s.data.toList) ∧ w = w' := by
  have hL : Hid (s.data.toList.length = s.size) := size_l s
  go_enter Tryd.func5, Tryd.ntmps5
  go_wp2
  go_loop [4] (fun i => ∃ k : Nat, k ≤ s.size ∧ i = .int .i64 k ∧ Hid (check s.data.toList = ((check (s.data.toList.drop k)).1, k + (check (s.data.toList.drop k)).2))) (fun i => s.size - (intOf i).toNat)
  case atStart => exact ⟨0, Nat.zero_le _, rfl, by unfold Hid; simp⟩
  case round =>
    obtain ⟨k, hk, rfl, hc⟩ := hrel
    by_cases hlt : k < s.size
    · have hq := TextMath.seqLen_le (s.data.toList.drop k)
      have hq' : seqLen (s.data.toList.drop k) + k ≤ s.size := by rw [List.length_drop, hL.out] at hq; omega
      clear hq
      have hcall : ∀ W, RowTab W → Hid (Calls Tryd.prog 11 #[.string s, .int .i64 (k : Int)] W fun e w' => e = .returned (.int .i64 (seqLen (s.data.toList.drop k) : Nat)) ∧ W = w') := fun W hW => rSequence_any s k W hm hk hW
      generalize hn : seqLen (s.data.toList.drop k) = n at *
      have Hn : Hid (seqLen (s.data.toList.drop k) = n) := hn
      clear hn
      by_cases hn0 : n = 0
      · subst hn0
        go_wp2_with (go_at_call 11; refine (hcall _ ht).out.mono ?_; rintro e w' ⟨rfl, rfl⟩)
        go_ret2
        exact ⟨chkV_bad _ k (by rw [hL.out]; exact hlt) hc.out Hn.out, rfl⟩
      · have hz : (((n : Nat) : Int) == 0) = false := by simp; omega
        go_wp2_with (go_at_call 11; refine (hcall _ ht).out.mono ?_; rintro e w' ⟨rfl, rfl⟩)
        go_round
        case rel => exact ⟨k + n, by omega, by go_num, by have h := chk_step _ k hc.out (by rw [Hn.out]; exact hn0); rw [Hn.out] at h; exact h⟩
        case measure => simp [intOf]; omega
    · have hke : k = s.size := by omega
      have h := chkV_end _ k (by rw [hL.out]; exact hlt) hc.out
      rw [hke] at h
      have HH : Hid (_ = _) := h
      clear h hke hc
      go_wp2
      go_ret2
      exact ⟨HH.out, rfl⟩

theorem chkV_split (l : List UInt8) : ∃ e p : Int, chkV l = .tuple #[.int .i64 e, .int .i64 p] := ⟨_, _, rfl⟩

end Go.Proofs.YtoknbicfbeocbaaDoor
