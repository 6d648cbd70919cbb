/-
  DERIVED. GIVEN WITH THE SEED: THE CARDS: each row of YtfmhcgadgakbhaaGreatDoorRows.lean that lists a variable, with what it lists TIED to the program's text (the seventh form; the later family's looks); each row that meets fmt, with fmt's text TOLD by the authors' own Lean function (tested against real Go, not proved from fmt's source: count such statements apart). THE CARD IS WHAT COUNTS. Prove the row's statement (the work); the ties are given (YtfmhcgadgakbhaaGreatDoorTie.lean); close each card by the builder's one call (the guide's Derived/Test/ToyasCard.lean, 'card_holds'). Laid BY PROGRAM, IN A SANDBOX (cutbox-door.mjs). By AI agents, Wed Nov 11 2026. No macro, syntax, notation, axiom, sorry.
-/
import Derived.Test.YtfmhcgadgakbhaaGreatDoorRows
import GoSem.ClaimSeven
namespace Go.Proofs.YtfmhcgadgakbhaaGreatDoor
namespace Rows

/-- THE TIED CARD OF 'rosterlaw05.DnPart'. -/
def dnPartCard : Claim7 := { stood := { row := dnPartRow, standIns := [], harness := (true, "2adaa7f8d8b0d6175e4f1dda767e4dc0deb59fbd5f814caecbce69a1144b7a13"), looks := true }, kinds := [], alts := [], laidByText := true, laidKinds := [.data, .handle, .sentinel, .sentinel, .sentinel, .sentinel, .sentinel, .sentinel, .sentinel, .sentinel, .sentinel, .sentinel], laidTests := true, laidLooks := .later }
def DnPartCardSaid : Prop := Claim7.holds Tryz.pinned (.plain (OpenSpec.ofChange dnPartSpec)) dnPartCard

/-- THE TIED CARD OF 'rosterlaw05.DnKey'. -/
def dnKeyCard : Claim7 := { stood := { row := dnKeyRow, standIns := [], harness := (true, "2adaa7f8d8b0d6175e4f1dda767e4dc0deb59fbd5f814caecbce69a1144b7a13"), looks := true }, kinds := [], alts := [], laidByText := true, laidKinds := [.data, .handle, .sentinel, .sentinel, .sentinel, .sentinel, .sentinel, .sentinel, .sentinel, .sentinel, .sentinel, .sentinel], laidTests := true, laidLooks := .later }
def DnKeyCardSaid : Prop := Claim7.holds Tryz.pinned (.plain (OpenSpec.ofChange dnKeySpec)) dnKeyCard

/-- THE SECOND FORM's CARD OF 'rosterlaw05.DnPart'. -/
def dnPartUptoCard : Claim7 := { stood := { row := dnPartUptoRow, standIns := [], harness := (true, "2adaa7f8d8b0d6175e4f1dda767e4dc0deb59fbd5f814caecbce69a1144b7a13"), looks := true }, kinds := [], alts := [], laidByText := true, laidKinds := [.data, .handle, .sentinel, .sentinel, .sentinel, .sentinel, .sentinel, .sentinel, .sentinel, .sentinel, .sentinel, .sentinel], laidTests := true, laidLooks := .later }
def DnPartUptoCardSaid : Prop := Claim7.holds Tryz.pinned (.plain (OpenSpec.upto dnPartSpec)) dnPartUptoCard

/-- THE SECOND FORM's CARD OF 'rosterlaw05.DnKey'. -/
def dnKeyUptoCard : Claim7 := { stood := { row := dnKeyUptoRow, standIns := [], harness := (true, "2adaa7f8d8b0d6175e4f1dda767e4dc0deb59fbd5f814caecbce69a1144b7a13"), looks := true }, kinds := [], alts := [], laidByText := true, laidKinds := [.data, .handle, .sentinel, .sentinel, .sentinel, .sentinel, .sentinel, .sentinel, .sentinel, .sentinel, .sentinel, .sentinel], laidTests := true, laidLooks := .later }
def DnKeyUptoCardSaid : Prop := Claim7.holds Tryz.pinned (.plain (OpenSpec.upto dnKeySpec)) dnKeyUptoCard
end Rows
end Go.Proofs.YtfmhcgadgakbhaaGreatDoor
