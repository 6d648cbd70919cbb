/-
  DERIVED. GIVEN WITH THE SEED: THE CARDS: each row of YtkknenmpdimdbaaGreatDoorRows.lean that lists a variable, with what it lists TIED to the program's text (the seventh form; the later family's looks); each row that meets fmt, with fmt's text TOLD by the authors' own Lean function (tested against real Go, not proved from fmt's source: count such statements apart). THE CARD IS WHAT COUNTS. Prove the row's statement (the work); the ties are given (YtkknenmpdimdbaaGreatDoorTie.lean); close each card by the builder's one call (the guide's Derived/Test/ToyasCard.lean, 'card_holds'). Laid BY PROGRAM, IN A SANDBOX (cutbox-door.mjs). By AI agents, Wed Nov 11 2026. No macro, syntax, notation, axiom, sorry.
-/
import Derived.Test.YtkknenmpdimdbaaGreatDoorRows
import GoSem.ClaimSeven
namespace Go.Proofs.YtkknenmpdimdbaaGreatDoor
namespace Rows

/-- THE TIED CARD OF 'rosterlaw05.DnSpelt'. -/
def dnSpeltCard : Claim7 := { stood := { row := dnSpeltRow, standIns := [], harness := (true, "c712d3066a613780e1e0b8ff45008540219f41ffba8310f3c97308187782ec5e"), looks := true }, kinds := [], alts := [], laidByText := true, laidKinds := [.sentinel, .sentinel, .sentinel, .sentinel, .sentinel, .sentinel, .sentinel, .sentinel, .sentinel, .sentinel], laidTests := true, laidLooks := .later }
def DnSpeltCardSaid : Prop := Claim7.holds Tryz.pinned (.plain (OpenSpec.ofChange dnSpeltSpec)) dnSpeltCard

/-- THE TIED CARD OF 'rosterlaw05.DnParse'. -/
def dnParseCard : Claim7 := { stood := { row := dnParseRow, standIns := [], harness := (true, "c712d3066a613780e1e0b8ff45008540219f41ffba8310f3c97308187782ec5e"), looks := true }, kinds := [], alts := [], laidByText := true, laidKinds := [.data, .handle, .sentinel, .sentinel, .sentinel, .sentinel, .sentinel, .sentinel, .sentinel, .sentinel, .sentinel, .sentinel], laidTests := true, laidLooks := .later }
def DnParseCardSaid : Prop := Claim7.holds Tryz.pinned (.plain (OpenSpec.ofChange dnParseSpec)) dnParseCard

/-- THE TIED CARD OF 'rosterlaw05.DnKeyOf'. -/
def dnKeyOfCard : Claim7 := { stood := { row := dnKeyOfRow, standIns := [], harness := (true, "c712d3066a613780e1e0b8ff45008540219f41ffba8310f3c97308187782ec5e"), looks := true }, kinds := [], alts := [], laidByText := true, laidKinds := [.data, .handle, .sentinel, .sentinel, .sentinel, .sentinel, .sentinel, .sentinel, .sentinel, .sentinel, .sentinel, .sentinel], laidTests := true, laidLooks := .later }
def DnKeyOfCardSaid : Prop := Claim7.holds Tryz.pinned (.plain (OpenSpec.ofChange dnKeyOfSpec)) dnKeyOfCard

/-- THE TIED CARD OF 'rosterlaw05.DnReasons'. -/
def dnReasonsCard : Claim7 := { stood := { row := dnReasonsRow, standIns := [], harness := (true, "c712d3066a613780e1e0b8ff45008540219f41ffba8310f3c97308187782ec5e"), looks := true }, kinds := [], alts := [], laidByText := true, laidKinds := [.data, .handle, .sentinel, .sentinel, .sentinel, .sentinel, .sentinel, .sentinel, .sentinel, .sentinel, .sentinel, .sentinel], laidTests := true, laidLooks := .later }
def DnReasonsCardSaid : Prop := Claim7.holds Tryz.pinned (.plain (OpenSpec.ofChange dnReasonsSpec)) dnReasonsCard

/-- THE SECOND FORM's CARD OF 'rosterlaw05.DnSpelt'. -/
def dnSpeltUptoCard : Claim7 := { stood := { row := dnSpeltUptoRow, standIns := [], harness := (true, "c712d3066a613780e1e0b8ff45008540219f41ffba8310f3c97308187782ec5e"), looks := true }, kinds := [], alts := [], laidByText := true, laidKinds := [.sentinel, .sentinel, .sentinel, .sentinel, .sentinel, .sentinel, .sentinel, .sentinel, .sentinel, .sentinel], laidTests := true, laidLooks := .later }
def DnSpeltUptoCardSaid : Prop := Claim7.holds Tryz.pinned (.plain (OpenSpec.upto dnSpeltSpec)) dnSpeltUptoCard

/-- THE SECOND FORM's CARD OF 'rosterlaw05.DnParse'. -/
def dnParseUptoCard : Claim7 := { stood := { row := dnParseUptoRow, standIns := [], harness := (true, "c712d3066a613780e1e0b8ff45008540219f41ffba8310f3c97308187782ec5e"), looks := true }, kinds := [], alts := [], laidByText := true, laidKinds := [.data, .handle, .sentinel, .sentinel, .sentinel, .sentinel, .sentinel, .sentinel, .sentinel, .sentinel, .sentinel, .sentinel], laidTests := true, laidLooks := .later }
def DnParseUptoCardSaid : Prop := Claim7.holds Tryz.pinned (.plain (OpenSpec.upto dnParseSpec)) dnParseUptoCard

/-- THE SECOND FORM's CARD OF 'rosterlaw05.DnKeyOf'. -/
def dnKeyOfUptoCard : Claim7 := { stood := { row := dnKeyOfUptoRow, standIns := [], harness := (true, "c712d3066a613780e1e0b8ff45008540219f41ffba8310f3c97308187782ec5e"), looks := true }, kinds := [], alts := [], laidByText := true, laidKinds := [.data, .handle, .sentinel, .sentinel, .sentinel, .sentinel, .sentinel, .sentinel, .sentinel, .sentinel, .sentinel, .sentinel], laidTests := true, laidLooks := .later }
def DnKeyOfUptoCardSaid : Prop := Claim7.holds Tryz.pinned (.plain (OpenSpec.upto dnKeyOfSpec)) dnKeyOfUptoCard

/-- THE SECOND FORM's CARD OF 'rosterlaw05.DnReasons'. -/
def dnReasonsUptoCard : Claim7 := { stood := { row := dnReasonsUptoRow, standIns := [], harness := (true, "c712d3066a613780e1e0b8ff45008540219f41ffba8310f3c97308187782ec5e"), looks := true }, kinds := [], alts := [], laidByText := true, laidKinds := [.data, .handle, .sentinel, .sentinel, .sentinel, .sentinel, .sentinel, .sentinel, .sentinel, .sentinel, .sentinel, .sentinel], laidTests := true, laidLooks := .later }
def DnReasonsUptoCardSaid : Prop := Claim7.holds Tryz.pinned (.plain (OpenSpec.upto dnReasonsSpec)) dnReasonsUptoCard
end Rows
end Go.Proofs.YtkknenmpdimdbaaGreatDoor
