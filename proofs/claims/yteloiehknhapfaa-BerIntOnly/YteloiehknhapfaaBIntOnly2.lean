import Derived.Test.YteloiehknhapfaaBIntOnly
namespace Go.Proofs.Yteloiehknhapfaa
open Go.RowKit
open BerMath (lo sz be enc sg fo val pad okInt)

theorem sg_cases (l : List UInt8) : sg l = 0 ∨ sg l = -1 := by unfold sg; split <;> omega

set_option maxRecDepth 100000 in
set_option maxHeartbeats 2000000 in
theorem intOnly_good (s : ByteArray) (w : World) (h : okInt s.data.toList = true) :
    Calls Try.prog 4 #[.string s] w fun e w' => e = .returned (.bool true) ∧ Below w.heap.size w w' := by
  have hL : Hid (s.data.toList.length = s.size) := size_l s
  obtain ⟨hne, h8, hp⟩ := BerMath.okInt_iff _ h
  rw [hL.out] at h8
  have h1 : 1 ≤ s.size := by
    have := List.length_pos_iff.mpr hne
    rw [hL.out] at this
    exact this
  obtain ⟨_, v1, v2⟩ := BerMath.sz_val _ hne (by rw [hL.out]; exact h8) hp
  have henc : S (enc (val s.data.toList)) = s := by rw [BerMath.enc_val _ hne (by rw [hL.out]; exact h8) hp, S_of]
  have hI : ∀ W, Hid (Calls Try.prog 10 #[.string s] W fun e w' => e = .returned (.tuple #[.int .i64 (val s.data.toList), .int .i64 0]) ∧ W = w') := fun W => by
    have := int_any s W
    rw [intV_ok h] at this
    exact this
  have hP : ∀ W, Hid (Calls Try.prog 9 #[.int .i64 (val s.data.toList)] W fun e w' => e = .returned (.string s) ∧ Below W.heap.size W w') := fun W => by
    have := putInt_any (val s.data.toList) W v1 v2
    rw [henc] at this
    exact this
  have hfo : Hid (val s.data.toList = fo (sg s.data.toList) (s.data.toList.take s.size)) := by
    unfold Hid; rw [List.take_of_length_le (by rw [hL.out]; exact Nat.le_refl _)]; rfl
  have hst : ∀ k (hk : k < s.size), fo (sg s.data.toList) (s.data.toList.take (k + 1)) = fo (sg s.data.toList) (s.data.toList.take k) * 256 + (s[k].toNat : Int) := fun k hk => by
    rw [take_snoc s k hk, BerMath.fo_snoc]
  have p00 : 0 < s.size := h1
  have hsg : (s[0].toNat < 128 ∧ sg s.data.toList = 0) ∨ (128 ≤ s[0].toNat ∧ sg s.data.toList = -1) := by
    have g0 := getD_s s 0 (by omega)
    unfold sg
    rw [g0]
    split <;> omega
  have p0 : 0 < s.size := by omega
  have z1 : decide ((1 : Int) ≤ (s.size : Int)) = true := decide_eq_true (by omega)
  have z8 : decide ((s.size : Int) ≤ 8) = true := decide_eq_true (by omega)
  have y1 : (1 : Int) ≤ (s.size : Int) := by omega
  have y8 : (s.size : Int) ≤ 8 := by omega
  have hpc : decide ((1 : Int) < (s.size : Int)) = false ∨ ∃ (h2 : 1 < s.size), (2 : Int) ≤ (s.size : Int) ∧ (
      ((((s[0]'p0).toNat : Int) == 0) = true ∧ decide (((s[1]'h2).toNat : Int) < 128) = false ∧ (((s[0]'p0).toNat : Int) == 255) = false) ∨
      ((((s[0]'p0).toNat : Int) == 0) = false ∧ (((s[0]'p0).toNat : Int) == 255) = true ∧ decide ((128 : Int) ≤ ((s[1]'h2).toNat : Int)) = false) ∨
      ((((s[0]'p0).toNat : Int) == 0) = false ∧ (((s[0]'p0).toNat : Int) == 255) = false)) := by
    by_cases h2 : 1 < s.size
    · refine Or.inr ⟨h2, by omega, ?_⟩
      obtain ⟨l, hl⟩ := two_of s h2
      rw [hl] at hp
      have hp' : ¬ (s[0].toNat = 0 ∧ s[1].toNat < 128) ∧ ¬ (s[0].toNat = 255 ∧ 128 ≤ s[1].toNat) := by
        simpa [pad, not_and] using hp
      by_cases e0 : s[0].toNat = 0
      · refine Or.inl ⟨by rw [beq_iff_eq]; omega, decide_eq_false (by omega), by rw [beq_eq_false_iff_ne]; omega⟩
      · by_cases e1 : s[0].toNat = 255
        · exact Or.inr (Or.inl ⟨by rw [beq_eq_false_iff_ne]; omega, by rw [beq_iff_eq]; omega, decide_eq_false (by omega)⟩)
        · exact Or.inr (Or.inr ⟨by rw [beq_eq_false_iff_ne]; omega, by rw [beq_eq_false_iff_ne]; omega⟩)
    · exact Or.inl (decide_eq_false (by omega))
  have hsg2 : Hid (∃ g : Int, sg s.data.toList = g ∧ ((g = 0 ∧ decide ((128 : Int) ≤ ((s[0]'p0).toNat : Int)) = false) ∨ (g = -1 ∧ decide ((128 : Int) ≤ ((s[0]'p0).toNat : Int)) = true))) := by
    refine ⟨_, rfl, ?_⟩
    rcases hsg with ⟨a, b⟩ | ⟨a, b⟩
    · exact Or.inl ⟨b, decide_eq_false (by omega)⟩
    · exact Or.inr ⟨b, decide_eq_true (by omega)⟩
  obtain ⟨vv, hvv⟩ : ∃ vv, val s.data.toList = vv := ⟨_, rfl⟩
  rw [hvv] at hI hP hfo
  have hst' : Hid (∀ k (hk : k < s.size), fo (sg s.data.toList) (s.data.toList.take (k + 1)) = fo (sg s.data.toList) (s.data.toList.take k) * 256 + (s[k].toNat : Int)) := hst
  clear h hne hp h8 h1 hsg henc hst hvv v1 v2
  have key : ∀ (g : Int), sg s.data.toList = g → ((g = 0 ∧ decide ((128 : Int) ≤ ((s[0]'p0).toNat : Int)) = false) ∨ (g = -1 ∧ decide ((128 : Int) ≤ ((s[0]'p0).toNat : Int)) = true)) → 
      Calls Try.prog 4 #[.string s] w fun e w' => e = .returned (.bool true) ∧ Below w.heap.size w w' := by
    intro g hg hgc
    clear hsg2
    rcases hpc with q1 | ⟨h2, q2, ⟨q3, q4, q5⟩ | ⟨q3, q4, q5⟩ | ⟨q3, q4⟩⟩
    all_goals
      go_enter Try.func4, Try.ntmps4
      go_wp2_with (go_at_call 10; refine (hI _).out.mono ?_; rintro e w1 ⟨rfl, rfl⟩)
      go_loopw [6, 8] (fun vv iv wr => ∃ (k : Nat), k ≤ s.size ∧ iv = .int .i64 ((k : Int) - 1) ∧ vv = .int .i64 (fo g (s.data.toList.take k)) ∧ w = wr) (fun _ iv _ => (intOf iv + 1).toNat)
      case atStart => exact ⟨s.size, Nat.le_refl _, by go_num, by rw [hfo.out, hg], rfl⟩
      case round =>
        obtain ⟨k, hk, rfl, rfl, rfl⟩ := hrel
        cases k with
        | zero =>
          have e0 : fo g (s.data.toList.take 0) = g := rfl
          rw [e0]
          rcases hgc with ⟨rfl, hgd⟩ | ⟨rfl, hgd⟩
          all_goals
            go_wp2_with (first | (go_at_call 10; refine (hI _).out.mono ?_; rintro e w1 ⟨rfl, rfl⟩) | (go_at_call 9; refine (hP _).out.mono ?_; rintro e w1 ⟨rfl, hb1⟩))
            go_ret
            exact ⟨rfl, hb1⟩
        | succ k =>
          have hki : (((k + 1 : Nat) : Int)) - 1 = (k : Int) := by omega
          rw [hki]
          have hs := hst'.out k (by omega)
          rw [hg] at hs
          have hb := s[k].toNat_lt
          have hw : IntKind.u8.wrap (fo g (s.data.toList.take (k + 1))) = (s[k].toNat : Int) := by
            rw [lo_wrap, BerMath.lo_n]; omega
          have hq : Hid (fo g (s.data.toList.take (k + 1)) / 256 = fo g (s.data.toList.take k)) := by unfold Hid; omega
          have k0 : (0 : Int) ≤ (k : Int) := by omega
          have k1 : (k : Int) < (s.size : Int) := by omega
          clear hs hb hgc
          generalize fo g (s.data.toList.take (k + 1)) = f1 at *
          go_wp2
          go_roundw
          case rel => exact ⟨k, by omega, by go_num, by rw [hq.out], trivial⟩
          case measure => simp [intOf]
  obtain ⟨g, hg, hgc⟩ := hsg2.out
  exact key g hg hgc

theorem berIntOnly_walk (s : ByteArray) (w : World) (_ : s.size ≤ reachBytes) :
    Calls Try.prog 4 #[.string s] w fun e w' => e = .returned (.bool true) ∧ Below w.heap.size w w' := by
  cases h : okInt s.data.toList with
  | true => exact intOnly_good s w h
  | false => exact intOnly_bad s w h
end Go.Proofs.Yteloiehknhapfaa
