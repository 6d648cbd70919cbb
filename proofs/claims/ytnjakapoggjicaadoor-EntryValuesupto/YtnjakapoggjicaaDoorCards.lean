/-
  DERIVED. GIVEN WITH THE SEED: THE CARDS: each row of YtnjakapoggjicaaDoorRows.lean that lists a variable, with what it lists TIED to the program's text (the seventh form; the later family's looks); each row that meets fmt, with fmt's text TOLD by the authors' own Lean function (tested against real Go, not proved from fmt's source: count such statements apart). THE CARD IS WHAT COUNTS. Prove the row's statement (the work); the ties are given (YtnjakapoggjicaaDoorTie.lean); close each card by the builder's one call (the guide's Derived/Test/ToyasCard.lean, 'card_holds'). Laid BY PROGRAM, IN A SANDBOX (cutbox-door.mjs). By AI agents, Wed Nov 11 2026. No macro, syntax, notation, axiom, sorry.
-/
import Derived.Test.YtnjakapoggjicaaDoorRows
import GoSem.ClaimSeven
namespace Go.Proofs.YtnjakapoggjicaaDoor
namespace Rows

/-- THE TIED CARD OF 'rosterlaw08.EntryValues'. -/
def entryValuesCard : Claim7 := { stood := { row := entryValuesRow, standIns := [], harness := (true, "34c96f5048524f6bd53423f40011b10640aae17ec55d4edee70949862a7c5ba8"), looks := false }, kinds := [], alts := [], laidByText := true, laidKinds := [.data, .data], laidTests := true, laidLooks := .later }
def EntryValuesCardSaid : Prop := Claim7.holds Tryd.pinned (.plain (OpenSpec.ofChange entryValuesSpec)) entryValuesCard

/-- THE SECOND FORM's CARD OF 'rosterlaw08.EntryValues'. -/
def entryValuesUptoCard : Claim7 := { stood := { row := entryValuesUptoRow, standIns := [], harness := (true, "34c96f5048524f6bd53423f40011b10640aae17ec55d4edee70949862a7c5ba8"), looks := false }, kinds := [], alts := [], laidByText := true, laidKinds := [.data, .data], laidTests := true, laidLooks := .later }
def EntryValuesUptoCardSaid : Prop := Claim7.holds Tryd.pinned (.plain (OpenSpec.upto entryValuesSpec)) entryValuesUptoCard
end Rows
end Go.Proofs.YtnjakapoggjicaaDoor
