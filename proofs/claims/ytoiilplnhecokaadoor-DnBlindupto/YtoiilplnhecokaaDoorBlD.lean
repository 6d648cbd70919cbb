import Derived.Test.YtoiilplnhecokaaDoorDuOwn
import Derived.Test.YtoiilplnhecokaaDoorDuB
import Derived.Deep.RegionHeld3
import Derived.BigQuiet
namespace Go.Proofs.YtoiilplnhecokaaDoor
namespace Bl
open Go.RowKit
set_option linter.unusedVariables false

/-- A row of numbers that came in. -/
def NRw (w : World) (a : Option Addr) (n : Nat) : Prop := ∀ i, i < n → ∃ b off x, a = some ⟨b, off, none⟩ ∧ w.cell? ⟨b, off + i, none⟩ = some (.int .i64 x)
/-- The picks: their box, the numbers, how many were used. -/
def Pk (w : World) (g : Nat) (a : Option Addr) (n c I : Nat) : Prop := w.heap[g]? = some (.cells #[.slice a n c, .int .i64 (I : Int)] 34 (0, 0)) ∧ NRw w a n
theorem mod_pos (x m : Int) (h : 0 < m) : -m < x.tmod m ∧ x.tmod m < m := ⟨by have := Int.lt_tmod_of_pos x h; omega, Int.tmod_lt_of_pos x h⟩
/-- What next answers. -/
def NxQ (m : Int) (e : Ending) : Prop := ∃ k : Nat, e = .returned (.int .i64 (k : Int)) ∧ (k : Int) < m
set_option maxRecDepth 100000 in
set_option maxHeartbeats 4000000 in
theorem next_any (g : Nat) (a : Option Addr) (n c I : Nat) (m : Int) (w : World) (h : Pk w g a n c I) (hm : 0 < m) (hm2 : m ≤ 1048576) (hI : I ≤ 1073741824) (hn : n ≤ 1073741824) :
    Calls Tryd.prog 7 #[.pointer (some ⟨g, 0, none⟩), .int .i64 m] w fun e w' => NxQ m e ∧ (w' = w ∨ ∃ q, w' = (w.drewN q).setCell ⟨g, 1, none⟩ (.int .i64 ((I + 1 : Nat) : Int))) := by
  have c0 : w.cell? ⟨g, 0, none⟩ = some (.slice a n c) := by simp [World.cell?, h.1]
  have c1 : w.cell? ⟨g, 1, none⟩ = some (.int .i64 (I : Int)) := by simp [World.cell?, h.1]
  by_cases h0 : n = 0
  · subst h0
    clear c1 hI hn
    go_enter Tryd.func7, Tryd.ntmps7
    go_wp2_with fail
    go_ret
    exact ⟨⟨0, rfl, hm⟩, Or.inl rfl⟩
  · have hz : w.frozen? ⟨g, 1, none⟩ = false := by simp [World.frozen?, h.1]
    have n1 : ((n : Int) == 0) = false := by simp; omega
    have n2 : (n : Int) ≠ 0 := by omega
    have i0 : (0 : Int) ≤ (I : Int) := Int.natCast_nonneg _
    have im : (I : Int).tmod (n : Int) = ((I % n : Nat) : Int) := by rw [Int.tmod_eq_emod_of_nonneg i0]; simp
    have il : I % n < n := Nat.mod_lt _ (by omega)
    obtain ⟨b, off, x, rfl, cx⟩ := h.2 (I % n) il
    obtain ⟨j, hj⟩ : ∃ j, I % n = j := ⟨_, rfl⟩
    rw [hj] at im il cx
    have j0 : (0 : Int) ≤ (j : Int) := Int.natCast_nonneg _
    have j1 : (j : Int) < (n : Int) := Int.ofNat_lt.2 il
    have hmp := mod_pos x m hm
    obtain ⟨y, hy⟩ : ∃ y, x.tmod m = y := ⟨_, rfl⟩
    rw [hy] at hmp
    have m0 : m ≠ 0 := by omega
    clear h hj il h0
    go_enter Tryd.func7, Tryd.ntmps7
    go_wp2_with fail
    have hzd : ∀ q, (w.drewN q).cell? ⟨g, 1, none⟩ = some (.int .i64 (I : Int)) ∧ (w.drewN q).frozen? ⟨g, 1, none⟩ = false := fun q => ⟨c1, hz⟩
    have eI : Hid ((I : Int) + 1 = ((I + 1 : Nat) : Int)) := by unfold Hid; omega
    have hm2' : Hid (m ≤ 1048576) := hm2
    have hmp' : Hid (-m < y ∧ y < m) := hmp
    go_quiet (fail)
    rename_i nq
    obtain ⟨d1, d2⟩ := hzd nq
    have HD : Hid (∃ q, w.drewN nq = w.drewN q) := ⟨nq, rfl⟩
    obtain ⟨w2, hw2⟩ : ∃ W, w.drewN nq = W := ⟨_, rfl⟩
    rw [hw2] at d1 d2 HD ⊢
    clear c0 c1 cx hz hzd hw2 hm2 hn im j0 j1 i0 n1 n2 hmp hy m0
    by_cases hy0 : y < 0
    · have hw : wrap64 (y + m) = y + m := by have := hm2'.out; have := hmp'.out; unfold wrap64; omega
      obtain ⟨k, hk⟩ : ∃ k : Nat, y + m = (k : Int) := ⟨(y + m).toNat, by have := hmp'.out; omega⟩
      have F : Hid (NxQ m (.returned (.int .i64 (wrap64 (y + m))))) := ⟨k, by rw [hw, hk], by have := hmp'.out; omega⟩
      clear hk hw
      go_wp2_with fail
      go_ret
      obtain ⟨q, hq⟩ := HD.out
      exact ⟨F.out, Or.inr ⟨q, by rw [← hq, show ((I + 1 : Nat) : Int) = (I : Int) + 1 from by omega]⟩⟩
    · obtain ⟨k, hk⟩ : ∃ k : Nat, y = (k : Int) := ⟨y.toNat, by omega⟩
      have F : Hid (NxQ m (.returned (.int .i64 y))) := ⟨k, by rw [hk], by have := hmp'.out; omega⟩
      clear hk
      go_wp2_with fail
      go_ret
      obtain ⟨q, hq⟩ := HD.out
      exact ⟨F.out, Or.inr ⟨q, by rw [← hq]⟩⟩
end Bl
end Go.Proofs.YtoiilplnhecokaaDoor
