/-
  DERIVED. GIVEN WITH THE SEED: THE CARDS: each row of YtoomoicjoockjaaGreatDoorRows.lean that lists a variable, with what it lists TIED to the program's text (the seventh form; the later family's looks); each row that meets fmt, with fmt's text TOLD by the authors' own Lean function (tested against real Go, not proved from fmt's source: count such statements apart). THE CARD IS WHAT COUNTS. Prove the row's statement (the work); the ties are given (YtoomoicjoockjaaGreatDoorTie.lean); close each card by the builder's one call (the guide's Derived/Test/ToyasCard.lean, 'card_holds'). Laid BY PROGRAM, IN A SANDBOX (cutbox-door.mjs). By AI agents, Wed Nov 11 2026. No macro, syntax, notation, axiom, sorry.
-/
import Derived.Test.YtoomoicjoockjaaGreatDoorRows
import GoSem.ClaimSeven
namespace Go.Proofs.YtoomoicjoockjaaGreatDoor
namespace Rows

/-- THE TIED CARD OF 'rosterlaw07.LdifLoads'. -/
def ldifLoadsCard : Claim7 := { stood := { row := ldifLoadsRow, standIns := [], harness := (true, "c5dd75c07916c4e1ab9c09cac82a5e4aadf4719340946438dd6cc0e71bbb7ea5"), looks := false }, kinds := [], alts := [], laidByText := true, laidKinds := [.data, .data, .data, .pinned], laidTests := true, laidLooks := .later }
def LdifLoadsCardSaid : Prop := Claim7.holds Tryz.pinned (.plain (OpenSpec.ofChange ldifLoadsSpec)) ldifLoadsCard

/-- THE SECOND FORM's CARD OF 'rosterlaw07.LdifLoads'. -/
def ldifLoadsUptoCard : Claim7 := { stood := { row := ldifLoadsUptoRow, standIns := [], harness := (true, "c5dd75c07916c4e1ab9c09cac82a5e4aadf4719340946438dd6cc0e71bbb7ea5"), looks := false }, kinds := [], alts := [], laidByText := true, laidKinds := [.data, .data, .data, .pinned], laidTests := true, laidLooks := .later }
def LdifLoadsUptoCardSaid : Prop := Claim7.holds Tryz.pinned (.plain (OpenSpec.upto ldifLoadsSpec)) ldifLoadsUptoCard
end Rows
end Go.Proofs.YtoomoicjoockjaaGreatDoor
