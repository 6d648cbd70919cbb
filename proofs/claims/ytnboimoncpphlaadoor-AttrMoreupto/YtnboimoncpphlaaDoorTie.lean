/-
  DERIVED. GIVEN WITH THE SEED: THE PROGRAM's TIES (one call each: nine closed facts by the kernel) AND EACH ROW's TIE, after the 31st guide's Derived/Test/Toyas{Tie, Card}.lean. No idea stands in it: it is a product of the set-up. Laid BY PROGRAM, IN A SANDBOX (cutbox-door.mjs). By AI agents, Wed Nov 11 2026. No macro, syntax, notation, axiom, sorry.
-/
import Derived.Test.YtnboimoncpphlaaDoorRows
import Derived.LaidByTextLater
import Derived.SevenTiedAt
import Derived.LaidSub
import Derived.LaidOnce
namespace Go.Proofs.YtnboimoncpphlaaDoor
open Go
set_option maxRecDepth 100000
theorem seatTie1 : Tryd.prog.laidByTextLater [("roster/rosterref04.kinds", Rows.laid_roster_rosterref04_kinds), ("roster/attr.supers", Rows.laid_roster_attr_supers), ("roster/attr.syntaxes", Rows.laid_roster_attr_syntaxes), ("roster/attr.usages", Rows.laid_roster_attr_usages)] [.data, .data, .data, .data] true :=
  Program.laidByTextLater_by_one 106 8 187 (by kernel_rfl) (by kernel_rfl) (by kernel_rfl) (by kernel_rfl) (by kernel_rfl) (by kernel_rfl) (fun _ _ => by kernel_rfl)
theorem seatTie2 : Tryd.prog.laidByTextLater [("roster/attr.supers", Rows.laid_roster_attr_supers), ("roster/attr.syntaxes", Rows.laid_roster_attr_syntaxes), ("roster/rosterlaw04.known", Rows.laid_roster_rosterlaw04_known)] [.data, .data, .data] true :=
  Program.laidByTextLater_by_one 106 8 187 (by kernel_rfl) (by kernel_rfl) (by kernel_rfl) (by kernel_rfl) (by kernel_rfl) (by kernel_rfl) (fun _ _ => by kernel_rfl)
theorem noOwnUnsafe : Tryd.pinned.checked.prog.headLifts.contains "ownunsafe" = false := by kernel_rfl
theorem tie : Tryd.prog.laidByTextLater [("roster/rosterref04.kinds", Rows.laid_roster_rosterref04_kinds), ("roster/attr.supers", Rows.laid_roster_attr_supers), ("roster/attr.syntaxes", Rows.laid_roster_attr_syntaxes), ("roster/attr.usages", Rows.laid_roster_attr_usages)] [.data, .data, .data, .data] true :=
  Program.laidByTextLater.sub seatTie1 ["roster/rosterref04.kinds", "roster/attr.supers", "roster/attr.syntaxes", "roster/attr.usages"] (by kernel_rfl) (by kernel_rfl)
theorem attrTypes_row_tie : Rows.attrTypesRow.laidByTextAt .later Tryd.pinned [.data, .data, .data, .data] true :=
  OpenClaim.laidByTextAt_later rfl rfl tie noOwnUnsafe
theorem attrFinds_row_tie : Rows.attrFindsRow.laidByTextAt .later Tryd.pinned [.data, .data, .data, .data] true :=
  OpenClaim.laidByTextAt_later rfl rfl tie noOwnUnsafe
theorem tie2 : Tryd.prog.laidByTextLater [("roster/attr.supers", Rows.laid_roster_attr_supers)] [.data] true :=
  Program.laidByTextLater.sub seatTie2 ["roster/attr.supers"] (by kernel_rfl) (by kernel_rfl)
theorem attrMore_row_tie : Rows.attrMoreRow.laidByTextAt .later Tryd.pinned [.data] true :=
  OpenClaim.laidByTextAt_later rfl rfl tie2 noOwnUnsafe
theorem tie3 : Tryd.prog.laidByTextLater [("roster/attr.supers", Rows.laid_roster_attr_supers), ("roster/attr.syntaxes", Rows.laid_roster_attr_syntaxes), ("roster/rosterlaw04.known", Rows.laid_roster_rosterlaw04_known)] [.data, .data, .data] true :=
  Program.laidByTextLater.sub seatTie2 ["roster/attr.supers", "roster/attr.syntaxes", "roster/rosterlaw04.known"] (by kernel_rfl) (by kernel_rfl)
theorem attrSupers_row_tie : Rows.attrSupersRow.laidByTextAt .later Tryd.pinned [.data, .data, .data] true :=
  OpenClaim.laidByTextAt_later rfl rfl tie3 noOwnUnsafe
theorem attrTypesUpto_row_tie : Rows.attrTypesUptoRow.laidByTextAt .later Tryd.pinned [.data, .data, .data, .data] true :=
  OpenClaim.laidByTextAt_later rfl rfl tie noOwnUnsafe
theorem attrFindsUpto_row_tie : Rows.attrFindsUptoRow.laidByTextAt .later Tryd.pinned [.data, .data, .data, .data] true :=
  OpenClaim.laidByTextAt_later rfl rfl tie noOwnUnsafe
theorem attrMoreUpto_row_tie : Rows.attrMoreUptoRow.laidByTextAt .later Tryd.pinned [.data] true :=
  OpenClaim.laidByTextAt_later rfl rfl tie2 noOwnUnsafe
theorem attrSupersUpto_row_tie : Rows.attrSupersUptoRow.laidByTextAt .later Tryd.pinned [.data, .data, .data] true :=
  OpenClaim.laidByTextAt_later rfl rfl tie3 noOwnUnsafe
end Go.Proofs.YtnboimoncpphlaaDoor
