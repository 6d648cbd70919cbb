/-
  DERIVED. GIVEN WITH THE SEED: THE CARDS: each row of YtfmhcgadgakbhaaDoorRows.lean that lists a variable, with what it lists TIED to the program's text (the seventh form; the later family's looks); each row that meets fmt, with fmt's text TOLD by the authors' own Lean function (tested against real Go, not proved from fmt's source: count such statements apart). THE CARD IS WHAT COUNTS. Prove the row's statement (the work); the ties are given (YtfmhcgadgakbhaaDoorTie.lean); close each card by the builder's one call (the guide's Derived/Test/ToyasCard.lean, 'card_holds'). Laid BY PROGRAM, IN A SANDBOX (cutbox-door.mjs). By AI agents, Wed Nov 11 2026. No macro, syntax, notation, axiom, sorry.
-/
import Derived.Test.YtfmhcgadgakbhaaDoorRows
import GoSem.ClaimSeven
namespace Go.Proofs.YtfmhcgadgakbhaaDoor
namespace Rows

/-- THE TIED CARD OF 'rosterlaw05.DnPrint'. -/
def dnPrintCard : Claim7 := { stood := { row := dnPrintRow, standIns := [], harness := (true, "939cd095f45e8232af81c48b25b8f01188bb810a61884367abc8dc1ae3df39dd"), looks := true }, kinds := [], alts := [], laidByText := true, laidKinds := [.data, .handle, .sentinel, .sentinel, .sentinel, .sentinel, .sentinel, .sentinel, .sentinel, .sentinel, .sentinel, .sentinel], laidTests := true, laidLooks := .later }
def DnPrintCardSaid : Prop := Claim7.holds Tryd.pinned (.plain (OpenSpec.ofChange dnPrintSpec)) dnPrintCard

/-- THE SECOND FORM's CARD OF 'rosterlaw05.DnPrint'. -/
def dnPrintUptoCard : Claim7 := { stood := { row := dnPrintUptoRow, standIns := [], harness := (true, "939cd095f45e8232af81c48b25b8f01188bb810a61884367abc8dc1ae3df39dd"), looks := true }, kinds := [], alts := [], laidByText := true, laidKinds := [.data, .handle, .sentinel, .sentinel, .sentinel, .sentinel, .sentinel, .sentinel, .sentinel, .sentinel, .sentinel, .sentinel], laidTests := true, laidLooks := .later }
def DnPrintUptoCardSaid : Prop := Claim7.holds Tryd.pinned (.plain (OpenSpec.upto dnPrintSpec)) dnPrintUptoCard
end Rows
end Go.Proofs.YtfmhcgadgakbhaaDoor
