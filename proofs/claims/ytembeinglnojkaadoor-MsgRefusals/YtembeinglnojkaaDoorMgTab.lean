import Derived.Test.YtembeinglnojkaaDoorMgRf3
import Derived.Test.YtembeinglnojkaaDoorCards
import Derived.ProofKit
import Derived.Lib.LaidTab
namespace Go.Proofs.YtembeinglnojkaaDoor
open Go.RowKit

theorem gKinds : Tryd.prog.globalNamed "roster/rosterref13.kinds" = some 0 := by kernel_rfl
theorem gKindsType : (Tryd.prog.globals[0]?).map (·.type) = some 50 := by kernel_rfl
theorem cKindsType : Tryd.prog.cellsOf 50 = 10 := by kernel_rfl
theorem cInt : Tryd.prog.cellsOf 3 = 1 := by kernel_rfl
theorem tab_kinds {W : World} {rest : List (String × DataW Unit)} (h : laidMet Tryd.prog (("roster/rosterref13.kinds", Rows.laid_roster_rosterref13_kinds) :: rest) W) : KTab W := by
  have t : Lib.TabIs Tryd.prog W "roster/rosterref13.kinds" .i64 [0, -1, 2, 3, 4, 5, 6, 7, -1, 8] :=
    Lib.tabIs_of_head (rest := rest) gKinds gKindsType Tryd.underlying50 Tryd.underlying3 cInt cKindsType h
  intro i hi
  rw [t.cell gKinds i (by simpa using hi)]
  rfl
end Go.Proofs.YtembeinglnojkaaDoor
