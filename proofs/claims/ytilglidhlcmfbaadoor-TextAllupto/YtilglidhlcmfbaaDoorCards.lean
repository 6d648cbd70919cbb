/-
  DERIVED. GIVEN WITH THE SEED: THE CARDS: each row of YtilglidhlcmfbaaDoorRows.lean that lists a variable, with what it lists TIED to the program's text (the seventh form; the later family's looks); each row that meets fmt, with fmt's text TOLD by the authors' own Lean function (tested against real Go, not proved from fmt's source: count such statements apart). THE CARD IS WHAT COUNTS. Prove the row's statement (the work); the ties are given (YtilglidhlcmfbaaDoorTie.lean); close each card by the builder's one call (the guide's Derived/Test/ToyasCard.lean, 'card_holds'). Laid BY PROGRAM, IN A SANDBOX (cutbox-door.mjs). By AI agents, Wed Nov 11 2026. No macro, syntax, notation, axiom, sorry.
-/
import Derived.Test.YtilglidhlcmfbaaDoorRows
import GoSem.ClaimSeven
namespace Go.Proofs.YtilglidhlcmfbaaDoor
namespace Rows

/-- THE TIED CARD OF 'rosterlaw01.TextBases'. -/
def textBasesCard : Claim7 := { stood := { row := textBasesRow, standIns := [], harness := (true, "fcd640cc2ccd537ab93cf1f6fb9aea1dd2a6a4d74467392f7217c42c2cfdbd8a"), looks := false }, kinds := [], alts := [], laidByText := true, laidKinds := [.data, .data, .data, .pinned], laidTests := true, laidLooks := .later }
def TextBasesCardSaid : Prop := Claim7.holds Tryd.pinned (.plain (OpenSpec.ofChange textBasesSpec)) textBasesCard

/-- THE TIED CARD OF 'rosterlaw01.TextAll'. -/
def textAllCard : Claim7 := { stood := { row := textAllRow, standIns := [], harness := (true, "fcd640cc2ccd537ab93cf1f6fb9aea1dd2a6a4d74467392f7217c42c2cfdbd8a"), looks := false }, kinds := [], alts := [], laidByText := true, laidKinds := [.data, .data, .data, .data, .data, .pinned], laidTests := true, laidLooks := .later }
def TextAllCardSaid : Prop := Claim7.holds Tryd.pinned (.plain (OpenSpec.ofChange textAllSpec)) textAllCard

/-- THE SECOND FORM's CARD OF 'rosterlaw01.TextBases'. -/
def textBasesUptoCard : Claim7 := { stood := { row := textBasesUptoRow, standIns := [], harness := (true, "fcd640cc2ccd537ab93cf1f6fb9aea1dd2a6a4d74467392f7217c42c2cfdbd8a"), looks := false }, kinds := [], alts := [], laidByText := true, laidKinds := [.data, .data, .data, .pinned], laidTests := true, laidLooks := .later }
def TextBasesUptoCardSaid : Prop := Claim7.holds Tryd.pinned (.plain (OpenSpec.upto textBasesSpec)) textBasesUptoCard

/-- THE SECOND FORM's CARD OF 'rosterlaw01.TextAll'. -/
def textAllUptoCard : Claim7 := { stood := { row := textAllUptoRow, standIns := [], harness := (true, "fcd640cc2ccd537ab93cf1f6fb9aea1dd2a6a4d74467392f7217c42c2cfdbd8a"), looks := false }, kinds := [], alts := [], laidByText := true, laidKinds := [.data, .data, .data, .data, .data, .pinned], laidTests := true, laidLooks := .later }
def TextAllUptoCardSaid : Prop := Claim7.holds Tryd.pinned (.plain (OpenSpec.upto textAllSpec)) textAllUptoCard
end Rows
end Go.Proofs.YtilglidhlcmfbaaDoor
