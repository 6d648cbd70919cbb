import Derived.Test.YtofghgggllfafaaDoorChkLoop
namespace Go.Proofs.YtofghgggllfafaaDoor
open Go.RowKit
open TextMath (ld wi seqLen check u)

def ROWS : List (List Int) := [[1, 0, 127, 0, 0, 0, 0, 0, 0], [2, 194, 223, 128, 191, 0, 0, 0, 0], [3, 224, 224, 160, 191, 128, 191, 0, 0], [3, 225, 236, 128, 191, 128, 191, 0, 0], [3, 237, 237, 128, 159, 128, 191, 0, 0], [3, 238, 239, 128, 191, 128, 191, 0, 0],
  [4, 240, 240, 144, 191, 128, 191, 128, 191], [4, 241, 243, 128, 191, 128, 191, 128, 191], [4, 244, 244, 128, 143, 128, 191, 128, 191]]
def R (r c : Nat) : Int := (ROWS.getD r []).getD c 0
/-- The row's sequence stands at the head of the text. -/
def fit (r : Nat) (l : List UInt8) : Prop := R r 0 ≤ l.length ∧ ∀ k : Nat, (k : Int) < R r 0 → R r (1 + 2 * k) ≤ u (l.getD k 0) ∧ u (l.getD k 0) ≤ R r (2 + 2 * k)

/-- The table lies in its variable. -/
def RowTab (w : World) : Prop := ∀ r c, r < 9 → c < 9 → w.cell? ⟨0, r * 9 + c, none⟩ = some (.int .i64 (R r c))

theorem R_small : ∀ r : Fin 9, 1 ≤ R r.val 0 ∧ R r.val 0 ≤ 4 := by decide

theorem drop_getD (l : List UInt8) (i k : Nat) : (l.drop i).getD k 0 = l.getD (i + k) 0 := by simp [List.getD, List.getElem?_drop]

theorem fit_of (s : ByteArray) (i r n : Nat) (hn : R r 0 = n) (hf : i + n ≤ s.size) (h : ∀ k, k < n → R r (1 + 2 * k) ≤ u (s.data.toList.getD (i + k) 0) ∧ u (s.data.toList.getD (i + k) 0) ≤ R r (2 + 2 * k)) : fit r (s.data.toList.drop i) := by
  refine ⟨?_, fun k hk => ?_⟩
  · rw [hn, List.length_drop, size_l]; omega
  · rw [drop_getD]; rw [hn] at hk; exact h k (by omega)
theorem fit_not (s : ByteArray) (i r n k : Nat) (hn : R r 0 = n) (hk : k < n) (h : u (s.data.toList.getD (i + k) 0) < R r (1 + 2 * k) ∨ R r (2 + 2 * k) < u (s.data.toList.getD (i + k) 0)) : ¬ fit r (s.data.toList.drop i) := by
  intro hf
  have := hf.2 k (by rw [hn]; omega)
  rw [drop_getD] at this
  omega
theorem fit_short (s : ByteArray) (i r : Nat) (hi : i ≤ s.size) (h : (s.size : Int) < i + R r 0) : ¬ fit r (s.data.toList.drop i) := by
  intro hf
  have := hf.1
  rw [List.length_drop, size_l] at this
  omega

set_option maxHeartbeats 1000000 in
/-- What fits answers: true just where the row's sequence stands there. -/
theorem fits_any (s : ByteArray) (i r : Nat) (w : World) (hm : s.size ≤ 140737488355328) (hi : i ≤ s.size) (hr : r < 9) (ht : RowTab w) :
    Calls Tryd.prog 42 #[.string s, .int .i64 (i : Int), .int .i64 (r : Int)] w fun e w' => (∃ b, e = .returned (.bool b) ∧ (b = true ↔ fit r (s.data.toList.drop i))) ∧ w = w' := by
  have hc0 := ht r 0 hr (by omega)
  rw [Nat.add_zero] at hc0
  have hR := R_small ⟨r, hr⟩
  simp only [] at hR
  obtain ⟨n, hn⟩ : ∃ n : Nat, R r 0 = n := ⟨(R r 0).toNat, by omega⟩
  rw [hn] at hc0 hR
  have hn4 : n ≤ 4 := by omega
  have hr' : (r : Int) < 9 := by omega
  have HN : Hid (R r 0 = n) := hn
  clear hn hR
  by_cases hf : s.size < i + n
  · have hno : Hid (¬ fit r (s.data.toList.drop i)) := fit_short s i r hi (by rw [HN.out]; omega)
    go_enter Tryd.func42, Tryd.ntmps42
    go_wp2
    go_ret
    exact ⟨⟨false, rfl, by simp [hno.out]⟩, rfl⟩
  · go_enter Tryd.func42, Tryd.ntmps42
    go_wp2
    go_loop [8] (fun t => ∃ k : Nat, k ≤ n ∧ t = .int .i64 k ∧ Hid (∀ j, j < k → R r (1 + 2 * j) ≤ u (s.data.toList.getD (i + j) 0) ∧ u (s.data.toList.getD (i + j) 0) ≤ R r (2 + 2 * j))) (fun t => n - (intOf t).toNat)
    case atStart => exact ⟨0, Nat.zero_le _, rfl, fun _ h => by omega⟩
    case round =>
      obtain ⟨k, hk, rfl, hall⟩ := hrel
      by_cases hlt : k < n
      · have c1 := ht r (1 + 2 * k) hr (by omega)
        have c2 := ht r (2 + 2 * k) hr (by omega)
        have e1 : ((1 : Int) + 2 * (k : Int)).toNat = 1 + 2 * k := by omega
        have e2 : ((2 : Int) + 2 * (k : Int)).toNat = 2 + 2 * k := by omega
        have hik : i + k < s.size := by omega
        have hg := getD_s s (i + k) hik
        have e3 : ((i : Int) + (k : Int)).toNat = i + k := by omega
        have hyes : Hid (R r (1 + 2 * k) ≤ (s[i + k].toNat : Int) ∧ (s[i + k].toNat : Int) ≤ R r (2 + 2 * k) → ∀ j, j < k + 1 → R r (1 + 2 * j) ≤ u (s.data.toList.getD (i + j) 0) ∧ u (s.data.toList.getD (i + j) 0) ≤ R r (2 + 2 * j)) := by
          intro h j hj
          by_cases e : j = k
          · subst e; rw [hg]; exact h
          · exact hall.out j (by omega)
        have hnot : Hid ((s[i + k].toNat : Int) < R r (1 + 2 * k) ∨ R r (2 + 2 * k) < (s[i + k].toNat : Int) → ¬ fit r (s.data.toList.drop i)) := fun h => fit_not s i r n k HN.out hlt (by rw [hg]; exact h)
        generalize R r (1 + 2 * k) = la at *
        generalize R r (2 + 2 * k) = lb at *
        have hb256 : s[i + k].toNat < 256 := s[i + k].toNat_lt
        clear hall hg
        by_cases t1 : (s[i + k].toNat : Int) < la
        · have hno := hnot.out (Or.inl t1)
          have HNO : Hid (¬ fit r (s.data.toList.drop i)) := hno
          clear hno hnot hyes
          go_wp2
          go_ret
          exact ⟨⟨false, rfl, by simp [HNO.out]⟩, rfl⟩
        · have d1 : decide ((s[i + k].toNat : Int) < la) = false := by simpa using t1
          by_cases t2 : lb < (s[i + k].toNat : Int)
          · have HNO : Hid (¬ fit r (s.data.toList.drop i)) := hnot.out (Or.inr t2)
            clear hnot hyes
            go_wp2
            go_ret
            exact ⟨⟨false, rfl, by simp [HNO.out]⟩, rfl⟩
          · have HY : Hid (_) := hyes.out ⟨by omega, by omega⟩
            have d2 : decide (lb < (s[i + k].toNat : Int)) = false := by simpa using t2
            clear hnot hyes
            go_wp2
            go_round
            case rel => exact ⟨k + 1, by omega, by go_num, HY⟩
            case measure => simp [intOf]; omega
      · have hke : k = n := by omega
        have HF : Hid (fit r (s.data.toList.drop i)) := fit_of s i r n HN.out (by omega) (by rw [← hke]; exact hall.out)
        clear hall hke
        go_wp2
        go_ret
        exact ⟨Or.inr ⟨rfl, HF.out⟩, rfl⟩
end Go.Proofs.YtofghgggllfafaaDoor
