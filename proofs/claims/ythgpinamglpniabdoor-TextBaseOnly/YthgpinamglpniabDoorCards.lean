/-
  DERIVED. GIVEN WITH THE SEED: THE CARDS: each row of YthgpinamglpniabDoorRows.lean that lists a variable, with what it lists TIED to the program's text (the seventh form; the later family's looks); each row that meets fmt, with fmt's text TOLD by the authors' own Lean function (tested against real Go, not proved from fmt's source: count such statements apart). THE CARD IS WHAT COUNTS. Prove the row's statement (the work); the ties are given (YthgpinamglpniabDoorTie.lean); close each card by the builder's one call (the guide's Derived/Test/ToyasCard.lean, 'card_holds'). Laid BY PROGRAM, IN A SANDBOX (cutbox-door.mjs). By AI agents, Wed Nov 11 2026. No macro, syntax, notation, axiom, sorry.
-/
import Derived.Test.YthgpinamglpniabDoorRows
import GoSem.ClaimSeven
namespace Go.Proofs.YthgpinamglpniabDoor
namespace Rows

/-- THE TIED CARD OF 'rosterlaw01.TextBaseOnly'. -/
def textBaseOnlyCard : Claim7 := { stood := { row := textBaseOnlyRow, standIns := [], harness := (true, "8a0c54916a2947bb9e25c767012ce55354b01e45361aa4c01de6976c157045e8"), looks := false }, kinds := [], alts := [], laidByText := true, laidKinds := [.data, .data, .data, .pinned], laidTests := true, laidLooks := .later }
def TextBaseOnlyCardSaid : Prop := Claim7.holds Tryd.pinned (.plain (OpenSpec.ofChange textBaseOnlySpec)) textBaseOnlyCard

/-- THE TIED CARD OF 'rosterlaw01.TextChecks'. -/
def textChecksCard : Claim7 := { stood := { row := textChecksRow, standIns := [], harness := (true, "8a0c54916a2947bb9e25c767012ce55354b01e45361aa4c01de6976c157045e8"), looks := false }, kinds := [], alts := [], laidByText := true, laidKinds := [.data], laidTests := true, laidLooks := .later }
def TextChecksCardSaid : Prop := Claim7.holds Tryd.pinned (.plain (OpenSpec.ofChange textChecksSpec)) textChecksCard

/-- THE TIED CARD OF 'rosterlaw01.TextHexes'. -/
def textHexesCard : Claim7 := { stood := { row := textHexesRow, standIns := [], harness := (true, "8a0c54916a2947bb9e25c767012ce55354b01e45361aa4c01de6976c157045e8"), looks := false }, kinds := [], alts := [], laidByText := true, laidKinds := [.data], laidTests := true, laidLooks := .later }
def TextHexesCardSaid : Prop := Claim7.holds Tryd.pinned (.plain (OpenSpec.ofChange textHexesSpec)) textHexesCard

/-- THE SECOND FORM's CARD OF 'rosterlaw01.TextBaseOnly'. -/
def textBaseOnlyUptoCard : Claim7 := { stood := { row := textBaseOnlyUptoRow, standIns := [], harness := (true, "8a0c54916a2947bb9e25c767012ce55354b01e45361aa4c01de6976c157045e8"), looks := false }, kinds := [], alts := [], laidByText := true, laidKinds := [.data, .data, .data, .pinned], laidTests := true, laidLooks := .later }
def TextBaseOnlyUptoCardSaid : Prop := Claim7.holds Tryd.pinned (.plain (OpenSpec.upto textBaseOnlySpec)) textBaseOnlyUptoCard

/-- THE SECOND FORM's CARD OF 'rosterlaw01.TextChecks'. -/
def textChecksUptoCard : Claim7 := { stood := { row := textChecksUptoRow, standIns := [], harness := (true, "8a0c54916a2947bb9e25c767012ce55354b01e45361aa4c01de6976c157045e8"), looks := false }, kinds := [], alts := [], laidByText := true, laidKinds := [.data], laidTests := true, laidLooks := .later }
def TextChecksUptoCardSaid : Prop := Claim7.holds Tryd.pinned (.plain (OpenSpec.upto textChecksSpec)) textChecksUptoCard

/-- THE SECOND FORM's CARD OF 'rosterlaw01.TextHexes'. -/
def textHexesUptoCard : Claim7 := { stood := { row := textHexesUptoRow, standIns := [], harness := (true, "8a0c54916a2947bb9e25c767012ce55354b01e45361aa4c01de6976c157045e8"), looks := false }, kinds := [], alts := [], laidByText := true, laidKinds := [.data], laidTests := true, laidLooks := .later }
def TextHexesUptoCardSaid : Prop := Claim7.holds Tryd.pinned (.plain (OpenSpec.upto textHexesSpec)) textHexesUptoCard
end Rows
end Go.Proofs.YthgpinamglpniabDoor
