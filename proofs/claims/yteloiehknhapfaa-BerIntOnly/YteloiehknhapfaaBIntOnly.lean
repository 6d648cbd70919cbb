import Derived.Test.YteloiehknhapfaaBInt2
import Derived.Laws.StructEq
namespace Go.Proofs.Yteloiehknhapfaa
open Go.RowKit
open BerMath (lo sz be enc sg fo val pad okInt)

theorem intV_bad {s : ByteArray} (h : okInt s.data.toList = false) : intV s.data.toList = .tuple #[.int .i64 0, .int .i64 29] := by
  unfold intV; rw [h]; rfl
theorem intV_ok {s : ByteArray} (h : okInt s.data.toList = true) : intV s.data.toList = .tuple #[.int .i64 (val s.data.toList), .int .i64 0] := by
  unfold intV; rw [if_pos h]

/-- What the law itself says of a content's first bytes. -/
def goodB (s : ByteArray) : Prop := okInt s.data.toList = true

theorem two_of (s : ByteArray) (h2 : 2 ≤ s.size) : ∃ l, s.data.toList = s[0] :: s[1] :: l := by
  have g0 := getD_s s 0 (by omega)
  have g1 := getD_s s 1 (by omega)
  have hL' := size_l s
  match hm : s.data.toList, hL' with
  | [], hh => simp at hh; omega
  | [x], hh => simp at hh; omega
  | x :: y :: l, _ =>
    rw [hm] at g0 g1
    refine ⟨l, ?_⟩
    rw [← g0, ← g1]
    rfl

set_option maxRecDepth 100000 in
set_option maxHeartbeats 1000000 in
theorem intOnly_bad (s : ByteArray) (w : World) (h : okInt s.data.toList = false) :
    Calls Try.prog 4 #[.string s] w fun e w' => e = .returned (.bool true) ∧ Below w.heap.size w w' := by
  have hL : Hid (s.data.toList.length = s.size) := size_l s
  have hI : ∀ W, Hid (Calls Try.prog 10 #[.string s] W fun e w' => e = .returned (.tuple #[.int .i64 0, .int .i64 29]) ∧ W = w') := fun W => by
    have := int_any s W
    rw [intV_bad h] at this
    exact this
  have hc : s.size = 0 ∨ 8 < s.size ∨ (2 ≤ s.size ∧ s.size ≤ 8 ∧ pad s.data.toList = true) := by
    unfold okInt at h
    rw [hL.out] at h
    by_cases h0 : s.size = 0
    · exact Or.inl h0
    · by_cases h9 : 8 < s.size
      · exact Or.inr (Or.inl h9)
      · have hp : pad s.data.toList = true := by
          cases hp : pad s.data.toList with
          | true => rfl
          | false => rw [hp] at h; simp at h; omega
        refine Or.inr (Or.inr ⟨?_, by omega, hp⟩)
        have hL' := hL.out
        match hm : s.data.toList, hL' with
        | [], hh => simp at hh; omega
        | [x], hh => rw [hm] at hp; cases hp
        | x :: y :: l, hh => simp at hh; omega
  clear h
  rcases hc with h0 | h9 | ⟨h2, h8, hp⟩
  · have z1 : decide ((1 : Int) ≤ (s.size : Int)) = false := decide_eq_false (by omega)
    clear h0
    go_enter Try.func4, Try.ntmps4
    go_wp2_with (go_at_call 10; refine (hI _).out.mono ?_; rintro e w1 ⟨rfl, rfl⟩)
    go_ret
    exact ⟨rfl, Below.refl _ _⟩
  · have z1 : decide ((1 : Int) ≤ (s.size : Int)) = true := decide_eq_true (by omega)
    have z2 : decide ((s.size : Int) ≤ 8) = false := decide_eq_false (by omega)
    clear h9
    go_enter Try.func4, Try.ntmps4
    go_wp2_with (go_at_call 10; refine (hI _).out.mono ?_; rintro e w1 ⟨rfl, rfl⟩)
    go_ret
    exact ⟨rfl, Below.refl _ _⟩
  · obtain ⟨l, hl⟩ := two_of s h2
    rw [hl] at hp
    have hp' : (s[0].toNat = 0 ∧ s[1].toNat < 128) ∨ (s[0].toNat = 255 ∧ 128 ≤ s[1].toNat) := by
      simpa [pad] using hp
    have z2 : (2 : Int) ≤ (s.size : Int) := by omega
    have z8 : (s.size : Int) ≤ 8 := by omega
    clear hl hp
    rcases hp' with ⟨e0, e1⟩ | ⟨e0, e1⟩
    · have d0 : ((s[0].toNat : Int) == 0) = true := by rw [beq_iff_eq]; omega
      have d1 : decide ((s[1].toNat : Int) < 128) = true := decide_eq_true (by omega)
      clear e0 e1
      go_enter Try.func4, Try.ntmps4
      go_wp2_with (go_at_call 10; refine (hI _).out.mono ?_; rintro e w1 ⟨rfl, rfl⟩)
      go_ret
      exact ⟨rfl, Below.refl _ _⟩
    · have d0 : ((s[0].toNat : Int) == 0) = false := by rw [beq_eq_false_iff_ne]; omega
      have d0' : ((s[0].toNat : Int) == 255) = true := by rw [beq_iff_eq]; omega
      have d1 : decide ((128 : Int) ≤ (s[1].toNat : Int)) = true := decide_eq_true (by omega)
      clear e0 e1
      go_enter Try.func4, Try.ntmps4
      go_wp2_with (go_at_call 10; refine (hI _).out.mono ?_; rintro e w1 ⟨rfl, rfl⟩)
      go_ret
      exact ⟨rfl, Below.refl _ _⟩
end Go.Proofs.Yteloiehknhapfaa
