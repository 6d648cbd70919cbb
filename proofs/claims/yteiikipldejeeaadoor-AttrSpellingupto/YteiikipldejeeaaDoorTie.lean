/-
  DERIVED. GIVEN WITH THE SEED: THE PROGRAM's TIES (one call each: nine closed facts by the kernel) AND EACH ROW's TIE, after the 31st guide's Derived/Test/Toyas{Tie, Card}.lean. No idea stands in it: it is a product of the set-up. Laid BY PROGRAM, IN A SANDBOX (cutbox-door.mjs). By AI agents, Wed Nov 11 2026. No macro, syntax, notation, axiom, sorry.
-/
import Derived.Test.YteiikipldejeeaaDoorRows
import Derived.LaidByTextLater
import Derived.SevenTiedAt
import Derived.LaidSub
import Derived.LaidOnce
namespace Go.Proofs.YteiikipldejeeaaDoor
open Go
set_option maxRecDepth 100000
theorem seatTie1 : Tryd.prog.laidByTextLater [("roster/attr.supers", Rows.laid_roster_attr_supers), ("roster/attr.syntaxes", Rows.laid_roster_attr_syntaxes), ("roster/attr.usages", Rows.laid_roster_attr_usages), ("roster/rosterlaw04.known", Rows.laid_roster_rosterlaw04_known)] [.data, .data, .data, .data] true :=
  Program.laidByTextLater_by_one 39 8 63 (by kernel_rfl) (by kernel_rfl) (by kernel_rfl) (by kernel_rfl) (by kernel_rfl) (by kernel_rfl) (fun _ _ => by kernel_rfl)
theorem noOwnUnsafe : Tryd.pinned.checked.prog.headLifts.contains "ownunsafe" = false := by kernel_rfl
theorem tie : Tryd.prog.laidByTextLater [("roster/attr.supers", Rows.laid_roster_attr_supers), ("roster/attr.syntaxes", Rows.laid_roster_attr_syntaxes), ("roster/attr.usages", Rows.laid_roster_attr_usages), ("roster/rosterlaw04.known", Rows.laid_roster_rosterlaw04_known)] [.data, .data, .data, .data] true :=
  Program.laidByTextLater.sub seatTie1 ["roster/attr.supers", "roster/attr.syntaxes", "roster/attr.usages", "roster/rosterlaw04.known"] (by kernel_rfl) (by kernel_rfl)
theorem attrSpelling_row_tie : Rows.attrSpellingRow.laidByTextAt .later Tryd.pinned [.data, .data, .data, .data] true :=
  OpenClaim.laidByTextAt_later rfl rfl tie noOwnUnsafe
theorem attrSpellingUpto_row_tie : Rows.attrSpellingUptoRow.laidByTextAt .later Tryd.pinned [.data, .data, .data, .data] true :=
  OpenClaim.laidByTextAt_later rfl rfl tie noOwnUnsafe
end Go.Proofs.YteiikipldejeeaaDoor
