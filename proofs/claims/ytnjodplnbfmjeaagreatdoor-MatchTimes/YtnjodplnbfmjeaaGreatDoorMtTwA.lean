import Derived.Test.YtnjodplnbfmjeaaGreatDoorMtTmM
namespace Go.Proofs.YtnjodplnbfmjeaaGreatDoor
open Go.RowKit
set_option linter.unusedVariables false
set_option linter.unusedSimpArgs false
namespace Mt

set_option maxRecDepth 100000 in
set_option maxHeartbeats 1000000 in
theorem two_any (n : Nat) (w : World) (hn : n < 100) : Calls Tryz.prog 13 #[.int .i64 (n : Int)] w fun e w' => e = .returned (.string (S (pad 2 n))) ∧ Below w.heap.size w w' := by
  have n0 : (0 : Int) ≤ (n : Int) := Int.natCast_nonneg _
  have n1 : (n : Int) < 100 := by omega
  have q1 : (n : Int).tdiv 10 = ((n / 10 : Nat) : Int) := by rw [Int.tdiv_eq_ediv_of_nonneg n0]; omega
  have q2 : (n : Int).tmod 10 = ((n % 10 : Nat) : Int) := by rw [Int.tmod_eq_emod_of_nonneg n0]; omega
  have w1 : wrap64 ((n / 10 : Nat) : Int) = ((n / 10 : Nat) : Int) := by unfold wrap64; omega
  have w2 : wrap64 (48 + ((n / 10 : Nat) : Int)) = 48 + ((n / 10 : Nat) : Int) := by unfold wrap64; omega
  have w3 : wrap64 (48 + ((n % 10 : Nat) : Int)) = 48 + ((n % 10 : Nat) : Int) := by unfold wrap64; omega
  obtain ⟨a, ha⟩ : ∃ a, n / 10 = a := ⟨_, rfl⟩
  obtain ⟨b, hb⟩ : ∃ b, n % 10 = b := ⟨_, rfl⟩
  have ha10 : a < 10 := by omega
  have hb10 : b < 10 := by omega
  have hp : Hid (pad 2 n = [dgc a, dgc b]) := by unfold Hid; rw [pad2 hn, ha, hb]
  rw [ha] at q1 w1 w2
  rw [hb] at q2 w3
  have u1 : (48 + (a : Int)) % 256 = ((dgc a).toNat : Int) := by rw [dgc_val ha10]; omega
  have u2 : (48 + (b : Int)) % 256 = ((dgc b).toNat : Int) := by rw [dgc_val hb10]; omega
  have i1 : IntKind.u8.wrap (48 + (a : Int)) = ((dgc a).toNat : Int) := by rw [← u1]; rfl
  have i2 : IntKind.u8.wrap (48 + (b : Int)) = ((dgc b).toNat : Int) := by rw [← u2]; rfl
  obtain ⟨A, hA⟩ : ∃ A, dgc a = A := ⟨_, rfl⟩
  obtain ⟨B, hB⟩ : ∃ B, dgc b = B := ⟨_, rfl⟩
  rw [hA] at u1 i1 hp
  rw [hB] at u2 i2 hp
  have hcv : ∀ V : World, (convert 50 9 (.slice (some ⟨V.heap.size, 0, none⟩) 2 2)).run Tryz.prog (V.alloc (.cells #[.int .u8 (A.toNat : Int), .int .u8 (B.toNat : Int)] 5)) = .ok (.string (S [A, B])) (V.alloc (.cells #[.int .u8 (A.toNat : Int), .int .u8 (B.toNat : Int)] 5)) := fun V => by
    refine conv_back (P := Tryz.prog) _ _ _ _ V.heap.size 2 2 [A, B] Tryz.underlying50 Tryz.underlying5 Tryz.underlying9 rfl ?_
    intro j hj
    have : j = 0 ∨ j = 1 := by simp at hj; omega
    rcases this with rfl | rfl <;> simp [go_sem]
  have hBl : Hid (Below w.heap.size w (w.alloc (.cells #[.int .u8 (A.toNat : Int), .int .u8 (B.toNat : Int)] 5))) := (Below.refl _ _).alloc (Nat.le_refl _) _
  have hcv := hcv w
  clear ha hb ha10 hb10 hn n0 n1 hA hB
  go_enter Tryz.func13, Tryz.ntmps13
  go_wp2_with fail
  go_ret
  exact ⟨by rw [hp.out]; rfl, hBl.out⟩
end Mt
end Go.Proofs.YtnjodplnbfmjeaaGreatDoor
