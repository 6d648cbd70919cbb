import Derived.Test.YthgpinamglpniaaDoorUnhexLoop
import Derived.Test.YthgpinamglpniaaDoorHexLaws
import Derived.Test.YthgpinamglpniaaDoorFold
namespace Go.Proofs.YthgpinamglpniaaDoor
open Go.RowKit
open TextMath (dg hex wo unhex pre fold)

theorem wo_some (c : UInt8) (h : wo c ≠ none) : (48 ≤ c.toNat ∧ c.toNat ≤ 57) ∨ (97 ≤ c.toNat ∧ c.toNat ≤ 102) ∨ (65 ≤ c.toNat ∧ c.toNat ≤ 70) := by
  unfold wo at h
  repeat' split at h
  · exact Or.inl ‹_›
  · exact Or.inr (Or.inl ‹_›)
  · exact Or.inr (Or.inr ‹_›)
  · exact absurd rfl h
theorem wo_none (c : UInt8) (h : wo c = none) : c.toNat < 48 ∨ (57 < c.toNat ∧ c.toNat < 65) ∨ (70 < c.toNat ∧ c.toNat < 97) ∨ 102 < c.toNat := by
  unfold wo at h
  repeat' split at h
  · cases h
  · cases h
  · cases h
  · omega

set_option maxHeartbeats 2000000 in
theorem hexOnly_walk (s known : ByteArray) (w : World) (hs : s.size ≤ 140737488351232) (hkn : known.size ≤ 140737488351232) (ht : HexTab w) :
    Calls Tryd.prog 5 #[.string s, .string known] w fun e w' => e = .returned (.bool true) ∧ Below w.heap.size w w' := by
  have hL : Hid (s.data.toList.length = s.size) := size_l s
  have HB := Below.refl w.heap.size w
  have hzk : (S (hex known.data.toList)).size ≤ 281474976710656 := by rw [S_size, TextMath.hex_len, size_l]; omega
  have U1 : Hid (uhV (S (hex known.data.toList)).size (unhex (S (hex known.data.toList)).data.toList 0) = .tuple #[.string known, .int .i64 0, .int .i64 ((S (hex known.data.toList)).size : Nat)]) := by
    unfold Hid; rw [S_l, TextMath.unhex_hex]; show Value.tuple #[.string (S known.data.toList), _, _] = _; rw [S_of]
  cases hu : unhex s.data.toList 0 with
  | ok t =>
    have U2 : Hid (uhV s.size (unhex s.data.toList 0) = .tuple #[.string (S t), .int .i64 0, .int .i64 (s.size : Nat)]) := by unfold Hid; rw [hu]; rfl
    have hfo := TextMath.hex_unhex _ _ _ hu
    have hlen := congrArg List.length hfo
    rw [TextMath.hex_len] at hlen
    have hfl : (fold s.data.toList).length = s.size := by unfold fold; rw [List.length_map, size_l]
    have hts : (S t).size ≤ 140737488355328 := by rw [S_size]; omega
    have HF : Hid (S (hex (S t).data.toList) = S (fold s.data.toList)) := by unfold Hid; rw [S_l, hfo]
    clear hlen hfl hfo hu
    go_enter Tryd.func5, Tryd.ntmps5
    go_wp2_with (first
      | (go_at_call 7; refine (hex_any _ _ ?_ ?_).mono ?_; (omega); (exact ht.below HB); rintro e w1 ⟨rfl, hb1⟩; replace HB := HB.trans (hb1.mono HB.size); clear hb1; try rw [HF.out])
      | (go_at_call 8; refine (unhex_any _ _ ?_).mono ?_; (omega); rintro e w1 ⟨rfl, hb1⟩; replace HB := HB.trans (hb1.mono HB.size); clear hb1; first | rw [U1.out] | rw [U2.out])
      | (go_at_call 13; refine (fold_any _ _ ?_).mono ?_; (unfold maxLen; omega); rintro e w1 ⟨rfl, hb1⟩; replace HB := HB.trans (hb1.mono HB.size); clear hb1)
      | go_in)
    go_ret
    exact ⟨rfl, HB⟩
  | error p =>
    have U2 : Hid (uhV s.size (unhex s.data.toList 0) = .tuple #[.string ⟨#[]⟩, .int .i64 11, .int .i64 (p : Nat)]) := by unfold Hid; rw [hu]; rfl
    obtain ⟨_, h2, h3, h4, h5⟩ := TextMath.unhex_err _ _ _ hu
    rw [hL.out] at h2 h4 h5
    rw [Nat.zero_add] at h2 h4 h5
    rw [Nat.sub_zero] at h5
    have H3 : Hid (∀ i, 0 + i < p → wo (s.data.toList.getD i 0) ≠ none) := h3
    have H4 : Hid (p = s.size → s.size % 2 = 1) := h4
    have H5 : Hid (p < s.size → wo (s.data.toList.getD p 0) = none) := h5
    clear hu h3 h4 h5
    go_enter Tryd.func5, Tryd.ntmps5
    go_wp2_with (first
      | (go_at_call 7; refine (hex_any _ _ ?_ ?_).mono ?_; (omega); (exact ht.below HB); rintro e w1 ⟨rfl, hb1⟩; replace HB := HB.trans (hb1.mono HB.size); clear hb1)
      | (go_at_call 8; refine (unhex_any _ _ ?_).mono ?_; (omega); rintro e w1 ⟨rfl, hb1⟩; replace HB := HB.trans (hb1.mono HB.size); clear hb1; first | rw [U1.out] | rw [U2.out])
      | go_in)
    go_loop [11] (fun i => ∃ k : Nat, k ≤ p ∧ i = .int .i64 k) (fun i => p - (intOf i).toNat)
    case atStart => exact ⟨0, Nat.zero_le _, rfl⟩
    case round =>
      obtain ⟨k, hk, rfl⟩ := hrel
      by_cases hlt : k < p
      · have hks : k < s.size := by omega
        have h3 := H3.out k (by omega)
        rw [getD_s s k hks] at h3
        have hc256 : s[k].toNat < 256 := s[k].toNat_lt
        rcases wo_some _ h3 with h | h | h
        all_goals
          clear h3
          obtain ⟨ha, hb⟩ := h
          go_wp2
          go_round
          case rel => exact ⟨k + 1, by omega, by go_num⟩
          case measure => simp [intOf]; omega
      · have hkp : k = p := by omega
        subst hkp
        by_cases hps : k < s.size
        · have h5 := H5.out hps
          rw [getD_s s k hps] at h5
          have hc256 : s[k].toNat < 256 := s[k].toNat_lt
          have hne : (((k : Nat) : Int) == ((s.size : Nat) : Int)) = false := by simp; omega
          rcases wo_none _ h5 with h | h | h | h
          all_goals
            clear h5
            go_wp2
            go_ret
            refine ⟨?_, HB⟩
            first | rfl | (simp; omega)
        · have hke : k = s.size := by omega
          have h4 := H4.out hke
          have heq : (((k : Nat) : Int) == ((s.size : Nat) : Int)) = true := by simp; omega
          have hod : (((s.size : Nat) : Int) % 2 == 1) = true := by simp; omega
          clear hke h4
          go_wp2
          go_ret
          exact ⟨rfl, HB⟩
end Go.Proofs.YthgpinamglpniaaDoor
