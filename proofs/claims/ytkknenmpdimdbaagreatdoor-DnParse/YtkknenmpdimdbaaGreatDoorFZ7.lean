import Derived.Test.YtkknenmpdimdbaaGreatDoorRows
import Derived.WalkKit
import Derived.KernelRfl
import Derived.Deep.WholeRow
import Derived.RangeFuncNested
import Derived.RangeFuncBound
import Derived.RangeFuncCalls
import Derived.RangeFuncLeaves
import Derived.Shelf.Abstract
import Derived.Shelf.RegionOpen
import Derived.OwnWalkIn
import Derived.TacticsInMore
import Derived.LoopNIn
import Derived.LoopIn
import Derived.Maps.OwnIn
namespace Go.Proofs.YtkknenmpdimdbaaGreatDoor
open Go.RowKit

/-- A row's label: name, other name, identifier. -/
abbrev Lb := ByteArray × ByteArray × ByteArray
def lbC (x : Lb) : List Value := [.string x.1, .string x.2.1, .string x.2.2]
def lowL : List Lb := [
  (⟨#[111, 98, 106, 101, 99, 116, 99, 108, 97, 115, 115]⟩, ⟨#[]⟩, ⟨#[50, 46, 53, 46, 52, 46, 48]⟩),
  (⟨#[97, 108, 105, 97, 115, 101, 100, 111, 98, 106, 101, 99, 116, 110, 97, 109, 101]⟩, ⟨#[97, 108, 105, 97, 115, 101, 100, 101, 110, 116, 114, 121, 110, 97, 109, 101]⟩, ⟨#[50, 46, 53, 46, 52, 46, 49]⟩),
  (⟨#[110, 97, 109, 101]⟩, ⟨#[]⟩, ⟨#[50, 46, 53, 46, 52, 46, 52, 49]⟩),
  (⟨#[100, 105, 115, 116, 105, 110, 103, 117, 105, 115, 104, 101, 100, 110, 97, 109, 101]⟩, ⟨#[]⟩, ⟨#[50, 46, 53, 46, 52, 46, 52, 57]⟩),
  (⟨#[99, 110]⟩, ⟨#[99, 111, 109, 109, 111, 110, 110, 97, 109, 101]⟩, ⟨#[50, 46, 53, 46, 52, 46, 51]⟩),
  (⟨#[115, 110]⟩, ⟨#[115, 117, 114, 110, 97, 109, 101]⟩, ⟨#[50, 46, 53, 46, 52, 46, 52]⟩),
  (⟨#[115, 101, 114, 105, 97, 108, 110, 117, 109, 98, 101, 114]⟩, ⟨#[]⟩, ⟨#[50, 46, 53, 46, 52, 46, 53]⟩),
  (⟨#[99]⟩, ⟨#[99, 111, 117, 110, 116, 114, 121, 110, 97, 109, 101]⟩, ⟨#[50, 46, 53, 46, 52, 46, 54]⟩),
  (⟨#[108]⟩, ⟨#[108, 111, 99, 97, 108, 105, 116, 121, 110, 97, 109, 101]⟩, ⟨#[50, 46, 53, 46, 52, 46, 55]⟩),
  (⟨#[115, 116]⟩, ⟨#[115, 116, 97, 116, 101, 111, 114, 112, 114, 111, 118, 105, 110, 99, 101, 110, 97, 109, 101]⟩, ⟨#[50, 46, 53, 46, 52, 46, 56]⟩),
  (⟨#[115, 116, 114, 101, 101, 116]⟩, ⟨#[115, 116, 114, 101, 101, 116, 97, 100, 100, 114, 101, 115, 115]⟩, ⟨#[50, 46, 53, 46, 52, 46, 57]⟩),
  (⟨#[111]⟩, ⟨#[111, 114, 103, 97, 110, 105, 122, 97, 116, 105, 111, 110, 110, 97, 109, 101]⟩, ⟨#[50, 46, 53, 46, 52, 46, 49, 48]⟩),
  (⟨#[111, 117]⟩, ⟨#[111, 114, 103, 97, 110, 105, 122, 97, 116, 105, 111, 110, 97, 108, 117, 110, 105, 116, 110, 97, 109, 101]⟩, ⟨#[50, 46, 53, 46, 52, 46, 49, 49]⟩),
  (⟨#[116, 105, 116, 108, 101]⟩, ⟨#[]⟩, ⟨#[50, 46, 53, 46, 52, 46, 49, 50]⟩),
  (⟨#[100, 101, 115, 99, 114, 105, 112, 116, 105, 111, 110]⟩, ⟨#[]⟩, ⟨#[50, 46, 53, 46, 52, 46, 49, 51]⟩),
  (⟨#[98, 117, 115, 105, 110, 101, 115, 115, 99, 97, 116, 101, 103, 111, 114, 121]⟩, ⟨#[]⟩, ⟨#[50, 46, 53, 46, 52, 46, 49, 53]⟩),
  (⟨#[112, 111, 115, 116, 97, 108, 97, 100, 100, 114, 101, 115, 115]⟩, ⟨#[]⟩, ⟨#[50, 46, 53, 46, 52, 46, 49, 54]⟩),
  (⟨#[112, 111, 115, 116, 97, 108, 99, 111, 100, 101]⟩, ⟨#[]⟩, ⟨#[50, 46, 53, 46, 52, 46, 49, 55]⟩),
  (⟨#[112, 111, 115, 116, 111, 102, 102, 105, 99, 101, 98, 111, 120]⟩, ⟨#[]⟩, ⟨#[50, 46, 53, 46, 52, 46, 49, 56]⟩),
  (⟨#[112, 104, 121, 115, 105, 99, 97, 108, 100, 101, 108, 105, 118, 101, 114, 121, 111, 102, 102, 105, 99, 101, 110, 97, 109, 101]⟩, ⟨#[]⟩, ⟨#[50, 46, 53, 46, 52, 46, 49, 57]⟩),
  (⟨#[116, 101, 108, 101, 112, 104, 111, 110, 101, 110, 117, 109, 98, 101, 114]⟩, ⟨#[]⟩, ⟨#[50, 46, 53, 46, 52, 46, 50, 48]⟩),
  (⟨#[102, 97, 99, 115, 105, 109, 105, 108, 101, 116, 101, 108, 101, 112, 104, 111, 110, 101, 110, 117, 109, 98, 101, 114]⟩, ⟨#[102, 97, 120]⟩, ⟨#[50, 46, 53, 46, 52, 46, 50, 51]⟩),
  (⟨#[120, 49, 50, 49, 97, 100, 100, 114, 101, 115, 115]⟩, ⟨#[]⟩, ⟨#[50, 46, 53, 46, 52, 46, 50, 52]⟩),
  (⟨#[105, 110, 116, 101, 114, 110, 97, 116, 105, 111, 110, 97, 108, 105, 115, 100, 110, 110, 117, 109, 98, 101, 114]⟩, ⟨#[]⟩, ⟨#[50, 46, 53, 46, 52, 46, 50, 53]⟩),
  (⟨#[114, 101, 103, 105, 115, 116, 101, 114, 101, 100, 97, 100, 100, 114, 101, 115, 115]⟩, ⟨#[]⟩, ⟨#[50, 46, 53, 46, 52, 46, 50, 54]⟩),
  (⟨#[100, 101, 115, 116, 105, 110, 97, 116, 105, 111, 110, 105, 110, 100, 105, 99, 97, 116, 111, 114]⟩, ⟨#[]⟩, ⟨#[50, 46, 53, 46, 52, 46, 50, 55]⟩),
  (⟨#[109, 101, 109, 98, 101, 114]⟩, ⟨#[]⟩, ⟨#[50, 46, 53, 46, 52, 46, 51, 49]⟩),
  (⟨#[111, 119, 110, 101, 114]⟩, ⟨#[]⟩, ⟨#[50, 46, 53, 46, 52, 46, 51, 50]⟩),
  (⟨#[114, 111, 108, 101, 111, 99, 99, 117, 112, 97, 110, 116]⟩, ⟨#[]⟩, ⟨#[50, 46, 53, 46, 52, 46, 51, 51]⟩),
  (⟨#[115, 101, 101, 97, 108, 115, 111]⟩, ⟨#[]⟩, ⟨#[50, 46, 53, 46, 52, 46, 51, 52]⟩),
  (⟨#[117, 115, 101, 114, 112, 97, 115, 115, 119, 111, 114, 100]⟩, ⟨#[]⟩, ⟨#[50, 46, 53, 46, 52, 46, 51, 53]⟩),
  (⟨#[103, 105, 118, 101, 110, 110, 97, 109, 101]⟩, ⟨#[103, 110]⟩, ⟨#[50, 46, 53, 46, 52, 46, 52, 50]⟩),
  (⟨#[105, 110, 105, 116, 105, 97, 108, 115]⟩, ⟨#[]⟩, ⟨#[50, 46, 53, 46, 52, 46, 52, 51]⟩),
  (⟨#[103, 101, 110, 101, 114, 97, 116, 105, 111, 110, 113, 117, 97, 108, 105, 102, 105, 101, 114]⟩, ⟨#[]⟩, ⟨#[50, 46, 53, 46, 52, 46, 52, 52]⟩),
  (⟨#[100, 110, 113, 117, 97, 108, 105, 102, 105, 101, 114]⟩, ⟨#[]⟩, ⟨#[50, 46, 53, 46, 52, 46, 52, 54]⟩),
  (⟨#[104, 111, 117, 115, 101, 105, 100, 101, 110, 116, 105, 102, 105, 101, 114]⟩, ⟨#[]⟩, ⟨#[50, 46, 53, 46, 52, 46, 53, 49]⟩)]
def highL : List Lb := [
  (⟨#[99, 45, 108]⟩, ⟨#[]⟩, ⟨#[50, 46, 53, 46, 52, 46, 55, 46, 49]⟩),
  (⟨#[99, 45, 115, 116]⟩, ⟨#[]⟩, ⟨#[50, 46, 53, 46, 52, 46, 56, 46, 49]⟩),
  (⟨#[99, 45, 111]⟩, ⟨#[]⟩, ⟨#[50, 46, 53, 46, 52, 46, 49, 48, 46, 49]⟩),
  (⟨#[99, 45, 111, 117]⟩, ⟨#[]⟩, ⟨#[50, 46, 53, 46, 52, 46, 49, 49, 46, 49]⟩),
  (⟨#[117, 105, 100]⟩, ⟨#[117, 115, 101, 114, 105, 100]⟩, ⟨#[48, 46, 57, 46, 50, 51, 52, 50, 46, 49, 57, 50, 48, 48, 51, 48, 48, 46, 49, 48, 48, 46, 49, 46, 49]⟩),
  (⟨#[109, 97, 105, 108]⟩, ⟨#[114, 102, 99, 56, 50, 50, 109, 97, 105, 108, 98, 111, 120]⟩, ⟨#[48, 46, 57, 46, 50, 51, 52, 50, 46, 49, 57, 50, 48, 48, 51, 48, 48, 46, 49, 48, 48, 46, 49, 46, 51]⟩),
  (⟨#[114, 111, 111, 109, 110, 117, 109, 98, 101, 114]⟩, ⟨#[]⟩, ⟨#[48, 46, 57, 46, 50, 51, 52, 50, 46, 49, 57, 50, 48, 48, 51, 48, 48, 46, 49, 48, 48, 46, 49, 46, 54]⟩),
  (⟨#[109, 97, 110, 97, 103, 101, 114]⟩, ⟨#[]⟩, ⟨#[48, 46, 57, 46, 50, 51, 52, 50, 46, 49, 57, 50, 48, 48, 51, 48, 48, 46, 49, 48, 48, 46, 49, 46, 49, 48]⟩),
  (⟨#[104, 111, 109, 101, 112, 104, 111, 110, 101]⟩, ⟨#[104, 111, 109, 101, 116, 101, 108, 101, 112, 104, 111, 110, 101, 110, 117, 109, 98, 101, 114]⟩, ⟨#[48, 46, 57, 46, 50, 51, 52, 50, 46, 49, 57, 50, 48, 48, 51, 48, 48, 46, 49, 48, 48, 46, 49, 46, 50, 48]⟩),
  (⟨#[115, 101, 99, 114, 101, 116, 97, 114, 121]⟩, ⟨#[]⟩, ⟨#[48, 46, 57, 46, 50, 51, 52, 50, 46, 49, 57, 50, 48, 48, 51, 48, 48, 46, 49, 48, 48, 46, 49, 46, 50, 49]⟩),
  (⟨#[100, 99]⟩, ⟨#[100, 111, 109, 97, 105, 110, 99, 111, 109, 112, 111, 110, 101, 110, 116]⟩, ⟨#[48, 46, 57, 46, 50, 51, 52, 50, 46, 49, 57, 50, 48, 48, 51, 48, 48, 46, 49, 48, 48, 46, 49, 46, 50, 53]⟩),
  (⟨#[109, 111, 98, 105, 108, 101]⟩, ⟨#[109, 111, 98, 105, 108, 101, 116, 101, 108, 101, 112, 104, 111, 110, 101, 110, 117, 109, 98, 101, 114]⟩, ⟨#[48, 46, 57, 46, 50, 51, 52, 50, 46, 49, 57, 50, 48, 48, 51, 48, 48, 46, 49, 48, 48, 46, 49, 46, 52, 49]⟩),
  (⟨#[112, 97, 103, 101, 114]⟩, ⟨#[112, 97, 103, 101, 114, 116, 101, 108, 101, 112, 104, 111, 110, 101, 110, 117, 109, 98, 101, 114]⟩, ⟨#[48, 46, 57, 46, 50, 51, 52, 50, 46, 49, 57, 50, 48, 48, 51, 48, 48, 46, 49, 48, 48, 46, 49, 46, 52, 50]⟩),
  (⟨#[101, 109, 112, 108, 111, 121, 101, 101, 110, 117, 109, 98, 101, 114]⟩, ⟨#[]⟩, ⟨#[50, 46, 49, 54, 46, 56, 52, 48, 46, 49, 46, 49, 49, 51, 55, 51, 48, 46, 51, 46, 49, 46, 51]⟩),
  (⟨#[100, 105, 115, 112, 108, 97, 121, 110, 97, 109, 101]⟩, ⟨#[]⟩, ⟨#[50, 46, 49, 54, 46, 56, 52, 48, 46, 49, 46, 49, 49, 51, 55, 51, 48, 46, 51, 46, 49, 46, 50, 52, 49]⟩),
  (⟨#[117, 105, 100, 110, 117, 109, 98, 101, 114]⟩, ⟨#[]⟩, ⟨#[49, 46, 51, 46, 54, 46, 49, 46, 49, 46, 49, 46, 49, 46, 48]⟩),
  (⟨#[103, 105, 100, 110, 117, 109, 98, 101, 114]⟩, ⟨#[]⟩, ⟨#[49, 46, 51, 46, 54, 46, 49, 46, 49, 46, 49, 46, 49, 46, 49]⟩),
  (⟨#[104, 111, 109, 101, 100, 105, 114, 101, 99, 116, 111, 114, 121]⟩, ⟨#[]⟩, ⟨#[49, 46, 51, 46, 54, 46, 49, 46, 49, 46, 49, 46, 49, 46, 51]⟩),
  (⟨#[108, 111, 103, 105, 110, 115, 104, 101, 108, 108]⟩, ⟨#[]⟩, ⟨#[49, 46, 51, 46, 54, 46, 49, 46, 49, 46, 49, 46, 49, 46, 52]⟩),
  (⟨#[108, 97, 98, 101, 108, 101, 100, 117, 114, 105]⟩, ⟨#[]⟩, ⟨#[49, 46, 51, 46, 54, 46, 49, 46, 52, 46, 49, 46, 50, 53, 48, 46, 49, 46, 53, 55]⟩),
  (⟨#[99, 114, 101, 97, 116, 101, 116, 105, 109, 101, 115, 116, 97, 109, 112]⟩, ⟨#[]⟩, ⟨#[50, 46, 53, 46, 49, 56, 46, 49]⟩),
  (⟨#[109, 111, 100, 105, 102, 121, 116, 105, 109, 101, 115, 116, 97, 109, 112]⟩, ⟨#[]⟩, ⟨#[50, 46, 53, 46, 49, 56, 46, 50]⟩),
  (⟨#[99, 114, 101, 97, 116, 111, 114, 115, 110, 97, 109, 101]⟩, ⟨#[]⟩, ⟨#[50, 46, 53, 46, 49, 56, 46, 51]⟩),
  (⟨#[109, 111, 100, 105, 102, 105, 101, 114, 115, 110, 97, 109, 101]⟩, ⟨#[]⟩, ⟨#[50, 46, 53, 46, 49, 56, 46, 52]⟩),
  (⟨#[104, 97, 115, 115, 117, 98, 111, 114, 100, 105, 110, 97, 116, 101, 115]⟩, ⟨#[]⟩, ⟨#[50, 46, 53, 46, 49, 56, 46, 57]⟩),
  (⟨#[120, 53, 48, 48, 117, 110, 105, 113, 117, 101, 105, 100, 101, 110, 116, 105, 102, 105, 101, 114]⟩, ⟨#[]⟩, ⟨#[50, 46, 53, 46, 52, 46, 52, 53]⟩)]
def labs : List Lb := lowL ++ highL
def lowC : Array Value := (lowL.flatMap lbC).toArray
def highC : Array Value := (highL.flatMap lbC).toArray
theorem labs_len : labs.length = 62 := rfl
end Go.Proofs.YtkknenmpdimdbaaGreatDoor

namespace Go.Proofs.YtkknenmpdimdbaaGreatDoor
open Go.RowKit

theorem store_low (w : World) (L : List Value) (h : L = lowC.toList) : (storeCells ⟨w.heap.size, 0, none⟩ L 0).run Tryz.prog (w.alloc (.cells Tryz.zeroCells215 215)) = .ok () (w.alloc (.cells lowC 215)) := by
  subst h
  exact run_storeCells_new w _ _ lowC (by kernel_rfl) (by kernel_rfl) (by kernel_rfl)
set_option maxRecDepth 1000000 in
set_option maxHeartbeats 4000000 in
theorem lowLabels_any (w : World) : Calls Tryz.prog 146 #[] w fun e w' => e = .returned (.agg lowC) ∧ Below w.heap.size w w' := by
  go_enter Tryz.func146, Tryz.ntmps146
  go_wp2
  rw [store_low w _ (by kernel_rfl)]
  simp only [Result.andThen]
  rw [Oper.upon_skip]
  go_wp2
  refine bodyPost_ret (v := .agg lowC) ?_ rfl ⟨rfl, (Below.refl _ _).alloc (Nat.le_refl _) _⟩
  exact results_cell_row rfl _ _ w.heap.size 215 lowC (0, 0) _ rfl (heap_alloc_last w _) Tryz.underlying215 rfl (by kernel_rfl)
end Go.Proofs.YtkknenmpdimdbaaGreatDoor

namespace Go.Proofs.YtkknenmpdimdbaaGreatDoor
open Go.RowKit

theorem store_high (w : World) (L : List Value) (h : L = highC.toList) : (storeCells ⟨w.heap.size, 0, none⟩ L 0).run Tryz.prog (w.alloc (.cells Tryz.zeroCells217 217)) = .ok () (w.alloc (.cells highC 217)) := by
  subst h
  exact run_storeCells_new w _ _ highC (by kernel_rfl) (by kernel_rfl) (by kernel_rfl)
set_option maxRecDepth 1000000 in
set_option maxHeartbeats 4000000 in
theorem highLabels_any (w : World) : Calls Tryz.prog 147 #[] w fun e w' => e = .returned (.agg highC) ∧ Below w.heap.size w w' := by
  go_enter Tryz.func147, Tryz.ntmps147
  go_wp2
  rw [store_high w _ (by kernel_rfl)]
  simp only [Result.andThen]
  rw [Oper.upon_skip]
  go_wp2
  refine bodyPost_ret (v := .agg highC) ?_ rfl ⟨rfl, (Below.refl _ _).alloc (Nat.le_refl _) _⟩
  exact results_cell_row rfl _ _ w.heap.size 217 highC (0, 0) _ rfl (heap_alloc_last w _) Tryz.underlying217 rfl (by kernel_rfl)
end Go.Proofs.YtkknenmpdimdbaaGreatDoor

namespace Go.Proofs.YtkknenmpdimdbaaGreatDoor
open Go.RowKit

/-- What a row of the table is handed on as. -/
def rowL (i : Fin 62) : Lb := labs[i.1]'(by rw [labs_len]; exact i.2)
def rowV (i : Fin 62) : Value := .agg #[.string (rowL i).1, .string (rowL i).2.1, .string (rowL i).2.2]
set_option maxRecDepth 100000 in
theorem idx_low : ∀ (k : Nat) (hk : k < 36) (W : World), (Instr.index 215 (.agg lowC) (.int .i64 (k : Int))).run Tryz.prog W = .ok (rowV ⟨k, by omega⟩) W
  | 0, _, W => by kernel_rfl
  | 1, _, W => by kernel_rfl
  | 2, _, W => by kernel_rfl
  | 3, _, W => by kernel_rfl
  | 4, _, W => by kernel_rfl
  | 5, _, W => by kernel_rfl
  | 6, _, W => by kernel_rfl
  | 7, _, W => by kernel_rfl
  | 8, _, W => by kernel_rfl
  | 9, _, W => by kernel_rfl
  | 10, _, W => by kernel_rfl
  | 11, _, W => by kernel_rfl
  | 12, _, W => by kernel_rfl
  | 13, _, W => by kernel_rfl
  | 14, _, W => by kernel_rfl
  | 15, _, W => by kernel_rfl
  | 16, _, W => by kernel_rfl
  | 17, _, W => by kernel_rfl
  | 18, _, W => by kernel_rfl
  | 19, _, W => by kernel_rfl
  | 20, _, W => by kernel_rfl
  | 21, _, W => by kernel_rfl
  | 22, _, W => by kernel_rfl
  | 23, _, W => by kernel_rfl
  | 24, _, W => by kernel_rfl
  | 25, _, W => by kernel_rfl
  | 26, _, W => by kernel_rfl
  | 27, _, W => by kernel_rfl
  | 28, _, W => by kernel_rfl
  | 29, _, W => by kernel_rfl
  | 30, _, W => by kernel_rfl
  | 31, _, W => by kernel_rfl
  | 32, _, W => by kernel_rfl
  | 33, _, W => by kernel_rfl
  | 34, _, W => by kernel_rfl
  | 35, _, W => by kernel_rfl
  | k + 36, hk, _ => absurd hk (by omega)
set_option maxRecDepth 100000 in
theorem idx_high : ∀ (k : Nat) (hk : k < 26) (W : World), (Instr.index 217 (.agg highC) (.int .i64 (k : Int))).run Tryz.prog W = .ok (rowV ⟨36 + k, by omega⟩) W
  | 0, _, W => by kernel_rfl
  | 1, _, W => by kernel_rfl
  | 2, _, W => by kernel_rfl
  | 3, _, W => by kernel_rfl
  | 4, _, W => by kernel_rfl
  | 5, _, W => by kernel_rfl
  | 6, _, W => by kernel_rfl
  | 7, _, W => by kernel_rfl
  | 8, _, W => by kernel_rfl
  | 9, _, W => by kernel_rfl
  | 10, _, W => by kernel_rfl
  | 11, _, W => by kernel_rfl
  | 12, _, W => by kernel_rfl
  | 13, _, W => by kernel_rfl
  | 14, _, W => by kernel_rfl
  | 15, _, W => by kernel_rfl
  | 16, _, W => by kernel_rfl
  | 17, _, W => by kernel_rfl
  | 18, _, W => by kernel_rfl
  | 19, _, W => by kernel_rfl
  | 20, _, W => by kernel_rfl
  | 21, _, W => by kernel_rfl
  | 22, _, W => by kernel_rfl
  | 23, _, W => by kernel_rfl
  | 24, _, W => by kernel_rfl
  | 25, _, W => by kernel_rfl
  | k + 26, hk, _ => absurd hk (by omega)
end Go.Proofs.YtkknenmpdimdbaaGreatDoor

namespace Go.Proofs.YtkknenmpdimdbaaGreatDoor
open Go.RowKit Go.Shelf
attribute [local go_sem] Oper.semAt_some

abbrev encR (i : Fin 62) : Array Value := #[.int .i64 (i.1 : Int), .agg #[.string (rowL i).1, .string (rowL i).2.1, .string (rowL i).2.2]]
def upF (k : Nat) : List (Fin 62) := (List.finRange 62).take k
theorem upF_succ (k : Nat) (h : k < 62) : upF (k + 1) = upF k ++ [⟨k, h⟩] := by
  unfold upF
  rw [List.take_succ_eq_append_getElem (by simpa using h)]
  simp
theorem upF_len (k : Nat) (h : k ≤ 62) : (upF k).length = k := by simp [upF]; omega
theorem upF_pre (k : Nat) : upF k <+: upF 62 := by
  have e : upF 62 = List.finRange 62 := by unfold upF; rw [List.take_of_length_le (by simp)]
  rw [e]
  exact List.take_prefix k _
/-- Rows of cells from block H on stand. -/
def KC (H : Nat) (W W' : World) : Prop := W.heap.size ≤ W'.heap.size ∧ ∀ x cs t fz, H ≤ x → W.heap[x]? = some (.cells cs t fz) → W'.heap[x]? = W.heap[x]?
theorem abides_below {β : Type} {B : Nat} {J : β → World → Prop} (h : AbidesFrom B J) {s : β} {W W' : World} (hs : J s W) (hb : Below W.heap.size W W') : J s W' :=
  h s W W' none hs ⟨hb.os, hb.tape, hb.output, hb.size, fun k hk _ => hb.block k hk⟩ (fun r e => by cases e)

theorem setRow_under (w : World) (c c' : Array Value) (t : TypeId) (o : Obj) : ((w.alloc (.cells c t)).alloc o).setRow w.heap.size c' = (w.alloc (.cells c' t)).alloc o := by
  simp only [World.setRow, World.alloc]
  congr 1
  apply Array.ext_getElem?
  intro i
  rw [Array.getElem?_modify]
  by_cases h : w.heap.size = i
  · subst h
    simp [Array.getElem?_push]
  · have h' : ¬ i = w.heap.size := fun e => h e.symm
    simp [h, h', Array.getElem?_push]
theorem store_under (w : World) : (storeCells ⟨w.heap.size, 0, none⟩ lowC.toList 0).run Tryz.prog ((w.alloc (.cells Tryz.zeroCells215 215)).alloc (.cells Tryz.zeroCells217 217)) = .ok () ((w.alloc (.cells lowC 215)).alloc (.cells Tryz.zeroCells217 217)) := by
  have hs : lowC.toList.length = 108 := by kernel_rfl
  have hz : (Tryz.zeroCells215).size = 108 := by kernel_rfl
  have hg : ((w.alloc (.cells Tryz.zeroCells215 215)).alloc (.cells Tryz.zeroCells217 217)).heap[w.heap.size]? = some (.cells Tryz.zeroCells215 215 (0, 0)) := by
    rw [Below.heap_alloc _ _ _ (by simp)]
    exact heap_alloc_last w _
  have h1 : lowC.toList.all (·.oneCell') = true := by kernel_rfl
  rw [run_storeCells_at Tryz.prog w.heap.size 0 _ lowC.toList 0 _ _ hg (by omega) (fun v hv => List.all_eq_true.1 h1 v hv)]
  have e : ((Tryz.zeroCells215).toList.take (0 + 0) ++ lowC.toList ++ (Tryz.zeroCells215).toList.drop (0 + 0 + lowC.toList.length)).toArray = lowC := by
    rw [List.drop_of_length_le (by rw [hs]; simp [hz])]
    simp
  rw [e, setRow_under]
theorem ld_at (b : Nat) (ty : TypeId) (W : World) (cs : Array Value) (t : TypeId) (fz : Nat × Nat) (n : Nat) (e : TypeId) (h : W.heap[b]? = some (.cells cs t fz)) (hu : Tryz.prog.underlying ty = some (.array n e)) (hi : (Tryz.prog.info? ty).map (·.size) = some cs.size) : (Instr.loadAt ty (.pointer (some ⟨b, 0, none⟩))).run Tryz.prog W = .ok (.agg cs) W := by
  simp only [Instr.loadAt, Instr.sureAddr, Sem.run_bind, Sem.run_pure, Result.andThen]
  exact run_loadVar_row W b t ty cs fz _ h hu rfl hi
theorem opIn_load {n : Nat} {o : Oper} {a : Act} {w : World} {K : Act → World → Prop} {Q : Exit → Act → World → Prop} (ty : TypeId) (x : Operand) (ho : o.op = .load ty x) (p v : Value) (hx : a.eval x = p) (hr : (Instr.loadAt ty p).run Tryz.prog w = .ok v w) (h : K (a.put o.dst v) w) : o.wpIn Fence.wide n Tryz.prog a w K Q := by
  unfold Oper.wpIn
  refine ⟨fun _ _ => trivial, ?_⟩
  rw [Oper.semAt_plain Fence.wide _ _ (by rw [ho]; intro c hc; cases hc)]
  simp [execOp, ho, hx, hr, Result.andThen]
  exact h
set_option maxRecDepth 1000000 in
set_option maxHeartbeats 4000000 in
theorem labels_stops (n : Nat) (hn : 1 ≤ n) (w : World) : SeqStopsK Fence.wide n Tryz.prog 145 #[] encR (KC w.heap.size) (fun xs => xs = upF 62) (fun pre => pre <+: upF 62) 62 w := fun l J Jx W hW hJ hJx hY h0 => by
  refine callsIn_of_wp Tryz.func145 rfl trivial ?_ rfl
  simp only [Tryz.ntmps145, List.size_toArray, List.length_cons, List.length_nil, Nat.reduceAdd, Nat.reduceSub, Array.replicate_succ, Array.replicate_zero, List.push_toArray, List.append_toArray, List.nil_append, List.cons_append]
  gi_wp2_with (first | (refine ⟨trivial, ?_⟩; gi_at_call 146; refine (callsIn_wide.2 (lowLabels_any _)).mono ?_; rintro e w1 ⟨rfl, hb1⟩) | (refine ⟨trivial, ?_⟩; gi_at_call 147; refine (callsIn_wide.2 (highLabels_any _)).mono ?_; rintro e w2 ⟨rfl, hb2⟩; have st1 := store_under w2; have st2 := (store_high (w2.alloc (.cells lowC 215)) highC.toList rfl); rw [World.size_alloc] at st2; have ld1 := ld_at w2.heap.size 215 ((w2.alloc (.cells lowC 215)).alloc (.cells highC 217)) lowC 215 (0, 0) _ _ (by rw [Below.heap_alloc _ _ _ (by simp)]; exact heap_alloc_last w2 _) Tryz.underlying215 (by kernel_rfl)))
  refine opIn_load 215 _ rfl _ _ rfl ld1 ?_
  have hJ2 : J [] ((w2.alloc (.cells lowC 215)).alloc (.cells highC 217)) := by
    refine abides_below hJ h0 ?_
    exact ((hb1.trans (hb2.mono hb1.size)).alloc (Nat.le_trans hb1.size hb2.size) _).alloc (by simp; have := hb1.size; have := hb2.size; omega) _
  have hq : ((w2.alloc (.cells lowC 215)).alloc (.cells highC 217)).heap[w2.heap.size + 1]? = some (.cells highC 217 (0, 0)) := by
    have h := heap_alloc_last (w2.alloc (.cells lowC 215)) (.cells highC 217)
    rw [World.size_alloc] at h
    exact h
  have hws : Hid (w.heap.size ≤ w2.heap.size) := by have := hW.size; have := hb1.size; have := hb2.size; unfold Hid; omega
  generalize ((w2.alloc (.cells lowC 215)).alloc (.cells highC 217)) = W2 at *
  clear st1 st2 ld1 h0 hb1 hb2 hW
  gi_wp2
  gi_loopw [11] (fun iv wr => ∃ k : Nat, k ≤ 36 ∧ iv = .int .i64 (k : Int) ∧ J (upF k) wr ∧ Hid (wr.heap[w2.heap.size + 1]? = some (.cells highC 217 (0, 0)))) (fun iv _ => 36 - (intOf iv).toNat)
  case atStart => exact ⟨0, Nat.zero_le _, rfl, hJ2, hq⟩
  case round =>
    obtain ⟨k, hk, rfl, hJk, hqk⟩ := hrel
    by_cases hlt : k < 36
    · have k0 : (0 : Int) ≤ (k : Int) := Int.natCast_nonneg _
      have k1 : (k : Int) < 36 := by omega
      obtain ⟨i, hi⟩ : ∃ i : Fin 62, i = ⟨k, by omega⟩ := ⟨_, rfl⟩
      have hik : Hid (i.1 = k) := by unfold Hid; rw [hi]
      have hix : (Instr.index 215 (.agg lowC) (.int .i64 (k : Int))).run Tryz.prog wr = .ok (.agg #[.string (rowL i).1, .string (rowL i).2.1, .string (rowL i).2.2]) wr := by rw [hi]; exact idx_low k hlt wr
      have hup : Hid (upF (k + 1) = upF k ++ [i]) := by unfold Hid; rw [hi]; exact upF_succ k (by omega)
      have hJa : J (upF k) (wr.alloc (.cells #[.string (rowL i).1, .string (rowL i).2.1, .string (rowL i).2.2] 129)) := abides_below hJ hJk ((Below.refl _ _).alloc (Nat.le_refl _) _)
      obtain ⟨fn, tmps, assign, body, hy, hR⟩ := hY (upF k) i _ hJa (by rw [upF_len k (by omega)]; omega)
      dsimp only [encR] at hy
      rw [hik.out] at hy
      have hqa : Hid ((wr.alloc (.cells #[.string (rowL i).1, .string (rowL i).2.1, .string (rowL i).2.2] 129)).heap[w2.heap.size + 1]? = some (.cells highC 217 (0, 0))) := by
        unfold Hid
        rw [Below.heap_alloc _ _ _ (Array.getElem?_eq_some_iff.1 hqk.out).1]
        exact hqk.out
      have hlt' : Hid (k < 36) := hlt
      clear hi hk hlt hJk
      gi_wp2
      refine hR.mono ?_
      rintro e W3 (⟨rfl, hJ3, hk3⟩ | ⟨rfl, hJx3⟩)
      · have hq3 : Hid (W3.heap[w2.heap.size + 1]? = some (.cells highC 217 (0, 0))) := (hk3.2 _ _ _ _ (by have := hws.out; omega) hqa.out).trans hqa.out
        rw [← hup.out] at hJ3
        clear hk3 hR hy hix hqa
        gi_wp2
        go_roundw
        case rel => exact ⟨k + 1, hlt'.out, by simp, hJ3, hq3⟩
        case measure => have := hlt'.out; simp [intOf]; omega
      · rw [← hup.out] at hJx3
        clear hR hy hix hqa
        gi_wp2
        refine bodyPost_ret (results_none rfl _ _ _) rfl ?_
        exact ⟨⟨_, rfl⟩, .inr ⟨_, upF_pre _, hJx3⟩⟩
    · have hke : k = 36 := by omega
      subst hke
      have ld2 := ld_at (w2.heap.size + 1) 217 wr highC 217 (0, 0) _ _ hqk.out Tryz.underlying217 (by kernel_rfl)
      clear hk hlt hqk hJ2 hq
      gi_wp2
      refine opIn_load 217 _ rfl _ _ rfl ld2 ?_
      clear ld2
      gi_wp2
      gi_loopw [22] (fun iv ws => ∃ k : Nat, k ≤ 26 ∧ iv = .int .i64 (k : Int) ∧ J (upF (36 + k)) ws) (fun iv _ => 26 - (intOf iv).toNat)
      case atStart => exact ⟨0, Nat.zero_le _, rfl, hJk⟩
      case round =>
        clear hJk
        obtain ⟨k, hk, rfl, hJk⟩ := hrel
        by_cases hlt : k < 26
        · have k0 : (0 : Int) ≤ (k : Int) := Int.natCast_nonneg _
          have k1 : (k : Int) < 26 := by omega
          obtain ⟨i, hi⟩ : ∃ i : Fin 62, i = ⟨36 + k, by omega⟩ := ⟨_, rfl⟩
          have hik : Hid ((i.1 : Int) = 36 + (k : Int)) := by unfold Hid; rw [hi]; simp
          have hix : (Instr.index 217 (.agg highC) (.int .i64 (k : Int))).run Tryz.prog wr = .ok (.agg #[.string (rowL i).1, .string (rowL i).2.1, .string (rowL i).2.2]) wr := by rw [hi]; exact idx_high k hlt wr
          have hup : Hid (upF (36 + (k + 1)) = upF (36 + k) ++ [i]) := by unfold Hid; rw [hi]; exact upF_succ (36 + k) (by omega)
          have hJa : J (upF (36 + k)) (wr.alloc (.cells #[.string (rowL i).1, .string (rowL i).2.1, .string (rowL i).2.2] 129)) := abides_below hJ hJk ((Below.refl _ _).alloc (Nat.le_refl _) _)
          obtain ⟨fn, tmps, assign, body, hy, hR⟩ := hY (upF (36 + k)) i _ hJa (by rw [upF_len (36 + k) (by omega)]; omega)
          dsimp only [encR] at hy
          rw [hik.out] at hy
          have hlt' : Hid (k < 26) := hlt
          clear hi hk hlt hJk
          gi_wp2
          refine hR.mono ?_
          rintro e W3 (⟨rfl, hJ3, hk3⟩ | ⟨rfl, hJx3⟩)
          · rw [← hup.out] at hJ3
            clear hk3 hR hy hix
            gi_wp2
            go_roundw
            case rel => exact ⟨k + 1, hlt'.out, by simp, hJ3⟩
            case measure => have := hlt'.out; simp [intOf]; omega
          · rw [← hup.out] at hJx3
            clear hR hy hix
            gi_wp2
            refine bodyPost_ret (results_none rfl _ _ _) rfl ?_
            exact ⟨⟨_, rfl⟩, .inr ⟨_, upF_pre _, hJx3⟩⟩
        · have hke : k = 26 := by omega
          subst hke
          clear hlt hk
          gi_wp2
          go_end0
          exact ⟨⟨_, rfl⟩, .inl ⟨_, rfl, hJk⟩⟩
end Go.Proofs.YtkknenmpdimdbaaGreatDoor
