import Derived.Test.YtoomoicjoockjaaGreatDoorUbLoop
import Derived.Test.YtoomoicjoockjaaGreatDoorCards
import Derived.ProofKit
import Derived.Lib.LaidTab
namespace Go.Proofs.YtoomoicjoockjaaGreatDoor
open Go.RowKit
open TextMath (al)

theorem cU8b : Tryz.prog.cellsOf 5 = 1 := by kernel_rfl
def alZ : List Int := [65, 66, 67, 68, 69, 70, 71, 72, 73, 74, 75, 76, 77, 78, 79, 80, 81, 82, 83, 84, 85, 86, 87, 88, 89, 90, 97, 98, 99, 100, 101, 102, 103, 104, 105, 106, 107, 108, 109, 110, 111, 112, 113, 114, 115, 116, 117, 118, 119, 120, 121, 122, 48, 49, 50, 51, 52, 53, 54, 55, 56, 57, 43, 47]
theorem al_list : ∀ i : Fin 64, alZ.getD i.val 0 = ((al i.val).toNat : Int) := by decide +kernel
theorem gWo : Tryz.prog.globalNamed "roster/text.base64Worths" = some 2 := by kernel_rfl
theorem gWoType : (Tryz.prog.globals[2]?).map (·.type) = some 164 := by kernel_rfl
theorem cWoType : Tryz.prog.cellsOf 164 = 128 := by kernel_rfl
theorem cI8b : Tryz.prog.cellsOf 163 = 1 := by kernel_rfl
def woZ : List Int := [-1, -1, -1, -1, -1, -1, -1, -1, -1, -1, -1, -1, -1, -1, -1, -1, -1, -1, -1, -1, -1, -1, -1, -1, -1, -1, -1, -1, -1, -1, -1, -1, -1, -1, -1, -1, -1, -1, -1, -1, -1, -1, -1, 62, -1, -1, -1, 63, 52, 53, 54, 55, 56, 57, 58, 59, 60, 61, -1, -1, -1, -1, -1, -1, -1, 0, 1, 2, 3, 4, 5, 6, 7, 8, 9, 10, 11, 12, 13, 14, 15, 16, 17, 18, 19, 20, 21, 22, 23, 24, 25, -1, -1, -1, -1, -1, -1, 26, 27, 28, 29, 30, 31, 32, 33, 34, 35, 36, 37, 38, 39, 40, 41, 42, 43, 44, 45, 46, 47, 48, 49, 50, 51, -1, -1, -1, -1, -1]
theorem wo_list : ∀ i : Fin 128, woZ.getD i.val 0 = bw (UInt8.ofNat i.val) := by decide +kernel
theorem tab_base64Worths {W : World} {rest : List (String × DataW Unit)} (h : laidMet Tryz.prog (("roster/text.base64Worths", Rows.laid_roster_text_base64Worths) :: rest) W) : WTab W := by
  have t : Lib.TabIs Tryz.prog W "roster/text.base64Worths" .i8 woZ :=
    Lib.tabIs_of_head (rest := rest) gWo gWoType Tryz.underlying164 Tryz.underlying163 cI8b cWoType h
  intro i hi
  rw [t.cell gWo i (by exact hi), wo_list ⟨i, hi⟩]
end Go.Proofs.YtoomoicjoockjaaGreatDoor
