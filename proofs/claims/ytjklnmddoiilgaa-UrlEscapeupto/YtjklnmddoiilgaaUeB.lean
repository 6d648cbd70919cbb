import Derived.Test.YtjklnmddoiilgaaUeM
import Derived.Test.YtjklnmddoiilgaaInfo
namespace Go.Proofs.Ytjklnmddoiilgaa
open Go.RowKit
open EscMath

theorem uLetter_any (b : UInt8) (w : World) : Calls Try.prog 18 #[.int .u8 (b.toNat : Int)] w fun e w' => e = .returned (.bool (lt b.toNat)) ∧ w = w' := by
  have hb := b.toNat_lt
  unfold lt
  generalize b.toNat = n at *
  go_enter Try.func18, Try.ntmps18
  go_wp2
  all_goals go_ret
  all_goals refine ⟨ret_bool ?_, rfl⟩
  all_goals (rw [Bool.eq_iff_iff]; simp; try omega)
theorem uDigit_any (b : UInt8) (w : World) : Calls Try.prog 19 #[.int .u8 (b.toNat : Int)] w fun e w' => e = .returned (.bool (di b.toNat)) ∧ w = w' := by
  have hb := b.toNat_lt
  unfold di
  generalize b.toNat = n at *
  go_enter Try.func19, Try.ntmps19
  go_wp2
  all_goals go_ret
  all_goals refine ⟨ret_bool ?_, rfl⟩
  all_goals (rw [Bool.eq_iff_iff]; simp; try omega)
theorem uPlain_any (b : UInt8) (w : World) : Calls Try.prog 13 #[.int .u8 (b.toNat : Int)] w fun e w' => e = .returned (.bool (pl b)) ∧ w = w' := by
  have hb := b.toNat_lt
  unfold pl
  generalize b.toNat = n at *
  go_enter Try.func13, Try.ntmps13
  go_wp2
  all_goals go_ret
  all_goals refine ⟨ret_bool ?_, rfl⟩
  all_goals (rw [Bool.eq_iff_iff]; simp; try omega)
theorem lQuiet0_any (b : UInt8) (w : World) : Calls Try.prog 15 #[.int .u8 (b.toNat : Int)] w fun e w' => e = .returned (.bool (lt b.toNat || di b.toNat)) ∧ w = w' := by
  have hb := b.toNat_lt
  unfold lt di
  generalize b.toNat = n at *
  go_enter Try.func15, Try.ntmps15
  go_wp2
  all_goals go_ret
  all_goals refine ⟨ret_bool ?_, rfl⟩
  all_goals (rw [Bool.eq_iff_iff]; simp; try omega)
end Go.Proofs.Ytjklnmddoiilgaa
