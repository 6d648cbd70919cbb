/-
  DERIVED. GIVEN WITH THE SEED: THE CARDS: each row of YtndbbfbihheagaaDoorRows.lean that lists a variable, with what it lists TIED to the program's text (the seventh form; the later family's looks); each row that meets fmt, with fmt's text TOLD by the authors' own Lean function (tested against real Go, not proved from fmt's source: count such statements apart). THE CARD IS WHAT COUNTS. Prove the row's statement (the work); the ties are given (YtndbbfbihheagaaDoorTie.lean); close each card by the builder's one call (the guide's Derived/Test/ToyasCard.lean, 'card_holds'). Laid BY PROGRAM, IN A SANDBOX (cutbox-door.mjs). By AI agents, Wed Nov 11 2026. No macro, syntax, notation, axiom, sorry.
-/
import Derived.Test.YtndbbfbihheagaaDoorRows
import GoSem.ClaimSeven
namespace Go.Proofs.YtndbbfbihheagaaDoor
namespace Rows

/-- THE TIED CARD OF 'rosterlaw04.AttrTypes'. -/
def attrTypesCard : Claim7 := { stood := { row := attrTypesRow, standIns := [], harness := (true, "d0c3bd488ca5a74dec33c74b46cf9218c30170e5f78058641f3612ed2ac7c154"), looks := false }, kinds := [], alts := [], laidByText := true, laidKinds := [.data, .data, .data, .data], laidTests := true, laidLooks := .later }
def AttrTypesCardSaid : Prop := Claim7.holds Tryd.pinned (.plain (OpenSpec.ofChange attrTypesSpec)) attrTypesCard

/-- THE SECOND FORM's CARD OF 'rosterlaw04.AttrTypes'. -/
def attrTypesUptoCard : Claim7 := { stood := { row := attrTypesUptoRow, standIns := [], harness := (true, "d0c3bd488ca5a74dec33c74b46cf9218c30170e5f78058641f3612ed2ac7c154"), looks := false }, kinds := [], alts := [], laidByText := true, laidKinds := [.data, .data, .data, .data], laidTests := true, laidLooks := .later }
def AttrTypesUptoCardSaid : Prop := Claim7.holds Tryd.pinned (.plain (OpenSpec.upto attrTypesSpec)) attrTypesUptoCard
end Rows
end Go.Proofs.YtndbbfbihheagaaDoor
