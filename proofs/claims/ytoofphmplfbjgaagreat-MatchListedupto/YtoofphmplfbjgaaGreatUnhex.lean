import Derived.Test.YtoofphmplfbjgaaGreatHex
namespace Go.Proofs.YtoofphmplfbjgaaGreat
open Go.RowKit
open TextMath (dg hex wo unhex pre)

set_option maxHeartbeats 400000 in
theorem hexWorth_any (c : UInt8) (w : World) :
    Calls Tryz.prog 188 #[.int .u8 (c.toNat : Int)] w fun e w' => e = .returned (.tuple #[.int .u8 (((wo c).getD 0 : Nat) : Int), .bool (wo c).isSome]) ∧ w = w' := by
  have hc256 : c.toNat < 256 := c.toNat_lt
  unfold wo
  generalize c.toNat = n at *
  by_cases h1 : 48 ≤ n ∧ n ≤ 57
  · rw [if_pos h1]
    obtain ⟨h1, h2⟩ := h1
    go_enter Tryz.func188, Tryz.ntmps188
    go_wp2
    go_ret2
    refine ⟨?_, rfl⟩
    simp; omega
  · rw [if_neg h1]
    have d1 : (decide ((48 : Int) ≤ n) && decide ((n : Int) ≤ 57)) = false := by simp; omega
    by_cases h2 : 97 ≤ n ∧ n ≤ 102
    · rw [if_pos h2]
      obtain ⟨h2, h3⟩ := h2
      have g1 : ¬ (n : Int) ≤ 57 := by omega
      have g2 : (48 : Int) ≤ n := by omega
      clear h1 d1
      go_enter Tryz.func188, Tryz.ntmps188
      go_wp2
      go_ret2
      refine ⟨?_, rfl⟩
      simp; omega
    · rw [if_neg h2]
      by_cases h3 : 65 ≤ n ∧ n ≤ 70
      · rw [if_pos h3]
        obtain ⟨h3, h4⟩ := h3
        have g1 : ¬ (n : Int) ≤ 57 := by omega
        have g2 : (48 : Int) ≤ n := by omega
        have g3 : ¬ (97 : Int) ≤ n := by omega
        clear h1 d1 h2
        go_enter Tryz.func188, Tryz.ntmps188
        go_wp2
        go_ret2
        refine ⟨?_, rfl⟩
        simp; omega
      · rw [if_neg h3]
        clear d1
        go_enter Tryz.func188, Tryz.ntmps188
        go_wp2
        all_goals
          first
            | (exfalso; omega)
            | (go_ret2
               exact ⟨rfl, rfl⟩)
end Go.Proofs.YtoofphmplfbjgaaGreat
