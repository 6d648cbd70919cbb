/-
  DERIVED. GIVEN WITH THE SEED: THE CARDS: each row of YtcmdmkajpbhcaaaDoorRows.lean that lists a variable, with what it lists TIED to the program's text (the seventh form; the later family's looks); each row that meets fmt, with fmt's text TOLD by the authors' own Lean function (tested against real Go, not proved from fmt's source: count such statements apart). THE CARD IS WHAT COUNTS. Prove the row's statement (the work); the ties are given (YtcmdmkajpbhcaaaDoorTie.lean); close each card by the builder's one call (the guide's Derived/Test/ToyasCard.lean, 'card_holds'). Laid BY PROGRAM, IN A SANDBOX (cutbox-door.mjs). By AI agents, Wed Nov 11 2026. No macro, syntax, notation, axiom, sorry.
-/
import Derived.Test.YtcmdmkajpbhcaaaDoorRows
import GoSem.ClaimSeven
namespace Go.Proofs.YtcmdmkajpbhcaaaDoor
namespace Rows

/-- THE TIED CARD OF 'rosterlaw04.AttrKept'. -/
def attrKeptCard : Claim7 := { stood := { row := attrKeptRow, standIns := [], harness := (true, "2192c136227e2ee8aabf154c60cd5373dfe051723b8a054e98266b1a69d3b206"), looks := false }, kinds := [], alts := [], laidByText := true, laidKinds := [.data, .data, .data, .data], laidTests := true, laidLooks := .later }
def AttrKeptCardSaid : Prop := Claim7.holds Tryd.pinned (.plain (OpenSpec.ofChange attrKeptSpec)) attrKeptCard

/-- THE SECOND FORM's CARD OF 'rosterlaw04.AttrKept'. -/
def attrKeptUptoCard : Claim7 := { stood := { row := attrKeptUptoRow, standIns := [], harness := (true, "2192c136227e2ee8aabf154c60cd5373dfe051723b8a054e98266b1a69d3b206"), looks := false }, kinds := [], alts := [], laidByText := true, laidKinds := [.data, .data, .data, .data], laidTests := true, laidLooks := .later }
def AttrKeptUptoCardSaid : Prop := Claim7.holds Tryd.pinned (.plain (OpenSpec.upto attrKeptSpec)) attrKeptUptoCard
end Rows
end Go.Proofs.YtcmdmkajpbhcaaaDoor
