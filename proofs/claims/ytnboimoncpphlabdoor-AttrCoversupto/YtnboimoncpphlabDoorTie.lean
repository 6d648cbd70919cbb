/-
  DERIVED. GIVEN WITH THE SEED: THE PROGRAM's TIES (one call each: nine closed facts by the kernel) AND EACH ROW's TIE, after the 31st guide's Derived/Test/Toyas{Tie, Card}.lean. No idea stands in it: it is a product of the set-up. Laid BY PROGRAM, IN A SANDBOX (cutbox-door.mjs). By AI agents, Wed Nov 11 2026. No macro, syntax, notation, axiom, sorry.
-/
import Derived.Test.YtnboimoncpphlabDoorRows
import Derived.LaidByTextLater
import Derived.SevenTiedAt
import Derived.LaidSub
import Derived.LaidOnce
namespace Go.Proofs.YtnboimoncpphlabDoor
open Go
set_option maxRecDepth 100000
theorem seatTie1 : Tryd.prog.laidByTextLater [("roster/attr.supers", Rows.laid_roster_attr_supers), ("roster/attr.syntaxes", Rows.laid_roster_attr_syntaxes), ("roster/attr.usages", Rows.laid_roster_attr_usages), ("roster/rosterlaw04.known", Rows.laid_roster_rosterlaw04_known)] [.data, .data, .data, .data] true :=
  Program.laidByTextLater_by_one 106 8 187 (by kernel_rfl) (by kernel_rfl) (by kernel_rfl) (by kernel_rfl) (by kernel_rfl) (by kernel_rfl) (fun _ _ => by kernel_rfl)
theorem seatTie2 : Tryd.prog.laidByTextLater [("roster/rosterref04.kinds", Rows.laid_roster_rosterref04_kinds), ("roster/attr.supers", Rows.laid_roster_attr_supers), ("roster/attr.syntaxes", Rows.laid_roster_attr_syntaxes)] [.data, .data, .data] true :=
  Program.laidByTextLater_by_one 106 8 187 (by kernel_rfl) (by kernel_rfl) (by kernel_rfl) (by kernel_rfl) (by kernel_rfl) (by kernel_rfl) (fun _ _ => by kernel_rfl)
theorem seatTie3 : Tryd.prog.laidByTextLater [("roster/rosterref04.kinds", Rows.laid_roster_rosterref04_kinds), ("roster/attr.supers", Rows.laid_roster_attr_supers), ("roster/attr.syntaxes", Rows.laid_roster_attr_syntaxes), ("roster/attr.usages", Rows.laid_roster_attr_usages)] [.data, .data, .data, .data] true :=
  Program.laidByTextLater_by_one 106 8 187 (by kernel_rfl) (by kernel_rfl) (by kernel_rfl) (by kernel_rfl) (by kernel_rfl) (by kernel_rfl) (fun _ _ => by kernel_rfl)
theorem noOwnUnsafe : Tryd.pinned.checked.prog.headLifts.contains "ownunsafe" = false := by kernel_rfl
theorem tie : Tryd.prog.laidByTextLater [("roster/attr.supers", Rows.laid_roster_attr_supers)] [.data] true :=
  Program.laidByTextLater.sub seatTie1 ["roster/attr.supers"] (by kernel_rfl) (by kernel_rfl)
theorem attrOrder_row_tie : Rows.attrOrderRow.laidByTextAt .later Tryd.pinned [.data] true :=
  OpenClaim.laidByTextAt_later rfl rfl tie noOwnUnsafe
theorem tie2 : Tryd.prog.laidByTextLater [("roster/attr.supers", Rows.laid_roster_attr_supers), ("roster/attr.syntaxes", Rows.laid_roster_attr_syntaxes)] [.data, .data] true :=
  Program.laidByTextLater.sub seatTie1 ["roster/attr.supers", "roster/attr.syntaxes"] (by kernel_rfl) (by kernel_rfl)
theorem attrCanonical_row_tie : Rows.attrCanonicalRow.laidByTextAt .later Tryd.pinned [.data, .data] true :=
  OpenClaim.laidByTextAt_later rfl rfl tie2 noOwnUnsafe
theorem tie3 : Tryd.prog.laidByTextLater [("roster/attr.supers", Rows.laid_roster_attr_supers), ("roster/attr.syntaxes", Rows.laid_roster_attr_syntaxes), ("roster/attr.usages", Rows.laid_roster_attr_usages), ("roster/rosterlaw04.known", Rows.laid_roster_rosterlaw04_known)] [.data, .data, .data, .data] true :=
  Program.laidByTextLater.sub seatTie1 ["roster/attr.supers", "roster/attr.syntaxes", "roster/attr.usages", "roster/rosterlaw04.known"] (by kernel_rfl) (by kernel_rfl)
theorem attrSpelling_row_tie : Rows.attrSpellingRow.laidByTextAt .later Tryd.pinned [.data, .data, .data, .data] true :=
  OpenClaim.laidByTextAt_later rfl rfl tie3 noOwnUnsafe
theorem tie4 : Tryd.prog.laidByTextLater [("roster/rosterref04.kinds", Rows.laid_roster_rosterref04_kinds), ("roster/attr.supers", Rows.laid_roster_attr_supers), ("roster/attr.syntaxes", Rows.laid_roster_attr_syntaxes)] [.data, .data, .data] true :=
  Program.laidByTextLater.sub seatTie2 ["roster/rosterref04.kinds", "roster/attr.supers", "roster/attr.syntaxes"] (by kernel_rfl) (by kernel_rfl)
theorem attrSyntaxes_row_tie : Rows.attrSyntaxesRow.laidByTextAt .later Tryd.pinned [.data, .data, .data] true :=
  OpenClaim.laidByTextAt_later rfl rfl tie4 noOwnUnsafe
theorem tie5 : Tryd.prog.laidByTextLater [("roster/rosterref04.kinds", Rows.laid_roster_rosterref04_kinds), ("roster/attr.supers", Rows.laid_roster_attr_supers)] [.data, .data] true :=
  Program.laidByTextLater.sub seatTie2 ["roster/rosterref04.kinds", "roster/attr.supers"] (by kernel_rfl) (by kernel_rfl)
theorem attrCovers_row_tie : Rows.attrCoversRow.laidByTextAt .later Tryd.pinned [.data, .data] true :=
  OpenClaim.laidByTextAt_later rfl rfl tie5 noOwnUnsafe
theorem tie6 : Tryd.prog.laidByTextLater [("roster/rosterref04.kinds", Rows.laid_roster_rosterref04_kinds), ("roster/attr.supers", Rows.laid_roster_attr_supers), ("roster/attr.syntaxes", Rows.laid_roster_attr_syntaxes), ("roster/attr.usages", Rows.laid_roster_attr_usages)] [.data, .data, .data, .data] true :=
  Program.laidByTextLater.sub seatTie3 ["roster/rosterref04.kinds", "roster/attr.supers", "roster/attr.syntaxes", "roster/attr.usages"] (by kernel_rfl) (by kernel_rfl)
theorem attrKept_row_tie : Rows.attrKeptRow.laidByTextAt .later Tryd.pinned [.data, .data, .data, .data] true :=
  OpenClaim.laidByTextAt_later rfl rfl tie6 noOwnUnsafe
theorem attrOrderUpto_row_tie : Rows.attrOrderUptoRow.laidByTextAt .later Tryd.pinned [.data] true :=
  OpenClaim.laidByTextAt_later rfl rfl tie noOwnUnsafe
theorem attrCanonicalUpto_row_tie : Rows.attrCanonicalUptoRow.laidByTextAt .later Tryd.pinned [.data, .data] true :=
  OpenClaim.laidByTextAt_later rfl rfl tie2 noOwnUnsafe
theorem attrSpellingUpto_row_tie : Rows.attrSpellingUptoRow.laidByTextAt .later Tryd.pinned [.data, .data, .data, .data] true :=
  OpenClaim.laidByTextAt_later rfl rfl tie3 noOwnUnsafe
theorem attrSyntaxesUpto_row_tie : Rows.attrSyntaxesUptoRow.laidByTextAt .later Tryd.pinned [.data, .data, .data] true :=
  OpenClaim.laidByTextAt_later rfl rfl tie4 noOwnUnsafe
theorem attrCoversUpto_row_tie : Rows.attrCoversUptoRow.laidByTextAt .later Tryd.pinned [.data, .data] true :=
  OpenClaim.laidByTextAt_later rfl rfl tie5 noOwnUnsafe
theorem attrKeptUpto_row_tie : Rows.attrKeptUptoRow.laidByTextAt .later Tryd.pinned [.data, .data, .data, .data] true :=
  OpenClaim.laidByTextAt_later rfl rfl tie6 noOwnUnsafe
end Go.Proofs.YtnboimoncpphlabDoor
