/-
  DERIVED. GIVEN WITH THE SEED: THE CARDS: each row of YtkiidlnimjjnlaaDoorRows.lean that lists a variable, with what it lists TIED to the program's text (the seventh form; the later family's looks); each row that meets fmt, with fmt's text TOLD by the authors' own Lean function (tested against real Go, not proved from fmt's source: count such statements apart). THE CARD IS WHAT COUNTS. Prove the row's statement (the work); the ties are given (YtkiidlnimjjnlaaDoorTie.lean); close each card by the builder's one call (the guide's Derived/Test/ToyasCard.lean, 'card_holds'). Laid BY PROGRAM, IN A SANDBOX (cutbox-door.mjs). By AI agents, Wed Nov 11 2026. No macro, syntax, notation, axiom, sorry.
-/
import Derived.Test.YtkiidlnimjjnlaaDoorRows
import GoSem.ClaimSeven
namespace Go.Proofs.YtkiidlnimjjnlaaDoor
namespace Rows

/-- THE TIED CARD OF 'rosterlaw22.ViewWires'. -/
def viewWiresCard : Claim7 := { stood := { row := viewWiresRow, standIns := [], harness := (true, "9631640446759349c8a669e0aca21611657d7e6b6a88c10093ed2f597c2b104a"), looks := true }, kinds := [], alts := [], laidByText := true, laidKinds := [.data], laidTests := true, laidLooks := .later }
def ViewWiresCardSaid : Prop := Claim7.holds Tryd.pinned (.plain (OpenSpec.ofChange viewWiresSpec)) viewWiresCard

/-- THE SECOND FORM's CARD OF 'rosterlaw22.ViewWires'. -/
def viewWiresUptoCard : Claim7 := { stood := { row := viewWiresUptoRow, standIns := [], harness := (true, "9631640446759349c8a669e0aca21611657d7e6b6a88c10093ed2f597c2b104a"), looks := true }, kinds := [], alts := [], laidByText := true, laidKinds := [.data], laidTests := true, laidLooks := .later }
def ViewWiresUptoCardSaid : Prop := Claim7.holds Tryd.pinned (.plain (OpenSpec.upto viewWiresSpec)) viewWiresUptoCard
end Rows
end Go.Proofs.YtkiidlnimjjnlaaDoor
