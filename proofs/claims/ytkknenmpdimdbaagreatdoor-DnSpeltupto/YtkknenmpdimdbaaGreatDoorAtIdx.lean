import Derived.Test.YtkknenmpdimdbaaGreatDoorAtTab
namespace Go.Proofs.YtkknenmpdimdbaaGreatDoor
open Go.RowKit

/-- What a row of the table is handed on as. -/
def rowL (i : Fin 62) : Lb := labs[i.1]'(by rw [labs_len]; exact i.2)
def rowV (i : Fin 62) : Value := .agg #[.string (rowL i).1, .string (rowL i).2.1, .string (rowL i).2.2]
set_option maxRecDepth 100000 in
theorem idx_low : ∀ (k : Nat) (hk : k < 36) (W : World), (Instr.index 215 (.agg lowC) (.int .i64 (k : Int))).run Tryz.prog W = .ok (rowV ⟨k, by omega⟩) W
  | 0, _, W => by kernel_rfl
  | 1, _, W => by kernel_rfl
  | 2, _, W => by kernel_rfl
  | 3, _, W => by kernel_rfl
  | 4, _, W => by kernel_rfl
  | 5, _, W => by kernel_rfl
  | 6, _, W => by kernel_rfl
  | 7, _, W => by kernel_rfl
  | 8, _, W => by kernel_rfl
  | 9, _, W => by kernel_rfl
  | 10, _, W => by kernel_rfl
  | 11, _, W => by kernel_rfl
  | 12, _, W => by kernel_rfl
  | 13, _, W => by kernel_rfl
  | 14, _, W => by kernel_rfl
  | 15, _, W => by kernel_rfl
  | 16, _, W => by kernel_rfl
  | 17, _, W => by kernel_rfl
  | 18, _, W => by kernel_rfl
  | 19, _, W => by kernel_rfl
  | 20, _, W => by kernel_rfl
  | 21, _, W => by kernel_rfl
  | 22, _, W => by kernel_rfl
  | 23, _, W => by kernel_rfl
  | 24, _, W => by kernel_rfl
  | 25, _, W => by kernel_rfl
  | 26, _, W => by kernel_rfl
  | 27, _, W => by kernel_rfl
  | 28, _, W => by kernel_rfl
  | 29, _, W => by kernel_rfl
  | 30, _, W => by kernel_rfl
  | 31, _, W => by kernel_rfl
  | 32, _, W => by kernel_rfl
  | 33, _, W => by kernel_rfl
  | 34, _, W => by kernel_rfl
  | 35, _, W => by kernel_rfl
  | k + 36, hk, _ => absurd hk (by omega)
set_option maxRecDepth 100000 in
theorem idx_high : ∀ (k : Nat) (hk : k < 26) (W : World), (Instr.index 217 (.agg highC) (.int .i64 (k : Int))).run Tryz.prog W = .ok (rowV ⟨36 + k, by omega⟩) W
  | 0, _, W => by kernel_rfl
  | 1, _, W => by kernel_rfl
  | 2, _, W => by kernel_rfl
  | 3, _, W => by kernel_rfl
  | 4, _, W => by kernel_rfl
  | 5, _, W => by kernel_rfl
  | 6, _, W => by kernel_rfl
  | 7, _, W => by kernel_rfl
  | 8, _, W => by kernel_rfl
  | 9, _, W => by kernel_rfl
  | 10, _, W => by kernel_rfl
  | 11, _, W => by kernel_rfl
  | 12, _, W => by kernel_rfl
  | 13, _, W => by kernel_rfl
  | 14, _, W => by kernel_rfl
  | 15, _, W => by kernel_rfl
  | 16, _, W => by kernel_rfl
  | 17, _, W => by kernel_rfl
  | 18, _, W => by kernel_rfl
  | 19, _, W => by kernel_rfl
  | 20, _, W => by kernel_rfl
  | 21, _, W => by kernel_rfl
  | 22, _, W => by kernel_rfl
  | 23, _, W => by kernel_rfl
  | 24, _, W => by kernel_rfl
  | 25, _, W => by kernel_rfl
  | k + 26, hk, _ => absurd hk (by omega)
end Go.Proofs.YtkknenmpdimdbaaGreatDoor
