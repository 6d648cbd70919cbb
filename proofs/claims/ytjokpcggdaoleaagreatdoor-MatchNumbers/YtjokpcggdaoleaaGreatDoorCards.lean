/-
  DERIVED. GIVEN WITH THE SEED: THE CARDS: each row of YtjokpcggdaoleaaGreatDoorRows.lean that lists a variable, with what it lists TIED to the program's text (the seventh form; the later family's looks); each row that meets fmt, with fmt's text TOLD by the authors' own Lean function (tested against real Go, not proved from fmt's source: count such statements apart). THE CARD IS WHAT COUNTS. Prove the row's statement (the work); the ties are given (YtjokpcggdaoleaaGreatDoorTie.lean); close each card by the builder's one call (the guide's Derived/Test/ToyasCard.lean, 'card_holds'). Laid BY PROGRAM, IN A SANDBOX (cutbox-door.mjs). By AI agents, Wed Nov 11 2026. No macro, syntax, notation, axiom, sorry.
-/
import Derived.Test.YtjokpcggdaoleaaGreatDoorRows
import GoSem.ClaimSeven
namespace Go.Proofs.YtjokpcggdaoleaaGreatDoor
namespace Rows

/-- THE TIED CARD OF 'rosterlaw06.MatchBits'. -/
def matchBitsCard : Claim7 := { stood := { row := matchBitsRow, standIns := [], harness := (true, "88eacb18ff9a5a956b7e90251d1baa894766655df6a46f5cd04c5465f8b86389"), looks := true }, kinds := [], alts := [], laidByText := true, laidKinds := [.data, .data, .data, .data, .sentinel, .sentinel, .sentinel, .sentinel, .sentinel, .sentinel, .sentinel, .sentinel, .sentinel, .sentinel, .sentinel, .sentinel, .pinned], laidTests := true, laidLooks := .later }
def MatchBitsCardSaid : Prop := Claim7.holds Tryz.pinned (.plain (OpenSpec.ofChange matchBitsSpec)) matchBitsCard

/-- THE TIED CARD OF 'rosterlaw06.MatchLong'. -/
def matchLongCard : Claim7 := { stood := { row := matchLongRow, standIns := [], harness := (true, "88eacb18ff9a5a956b7e90251d1baa894766655df6a46f5cd04c5465f8b86389"), looks := true }, kinds := [], alts := [], laidByText := true, laidKinds := [.data, .data, .data, .data, .sentinel, .sentinel, .sentinel, .sentinel, .sentinel, .sentinel, .sentinel, .sentinel, .sentinel, .sentinel, .sentinel, .sentinel, .pinned], laidTests := true, laidLooks := .later }
def MatchLongCardSaid : Prop := Claim7.holds Tryz.pinned (.plain (OpenSpec.ofChange matchLongSpec)) matchLongCard

/-- THE TIED CARD OF 'rosterlaw06.MatchNumbers'. -/
def matchNumbersCard : Claim7 := { stood := { row := matchNumbersRow, standIns := [], harness := (true, "88eacb18ff9a5a956b7e90251d1baa894766655df6a46f5cd04c5465f8b86389"), looks := true }, kinds := [], alts := [], laidByText := true, laidKinds := [.data, .data, .data, .data, .sentinel, .sentinel, .sentinel, .sentinel, .sentinel, .sentinel, .sentinel, .sentinel, .sentinel, .sentinel, .sentinel, .sentinel, .pinned], laidTests := true, laidLooks := .later }
def MatchNumbersCardSaid : Prop := Claim7.holds Tryz.pinned (.plain (OpenSpec.ofChange matchNumbersSpec)) matchNumbersCard

/-- THE SECOND FORM's CARD OF 'rosterlaw06.MatchBits'. -/
def matchBitsUptoCard : Claim7 := { stood := { row := matchBitsUptoRow, standIns := [], harness := (true, "88eacb18ff9a5a956b7e90251d1baa894766655df6a46f5cd04c5465f8b86389"), looks := true }, kinds := [], alts := [], laidByText := true, laidKinds := [.data, .data, .data, .data, .sentinel, .sentinel, .sentinel, .sentinel, .sentinel, .sentinel, .sentinel, .sentinel, .sentinel, .sentinel, .sentinel, .sentinel, .pinned], laidTests := true, laidLooks := .later }
def MatchBitsUptoCardSaid : Prop := Claim7.holds Tryz.pinned (.plain (OpenSpec.upto matchBitsSpec)) matchBitsUptoCard

/-- THE SECOND FORM's CARD OF 'rosterlaw06.MatchLong'. -/
def matchLongUptoCard : Claim7 := { stood := { row := matchLongUptoRow, standIns := [], harness := (true, "88eacb18ff9a5a956b7e90251d1baa894766655df6a46f5cd04c5465f8b86389"), looks := true }, kinds := [], alts := [], laidByText := true, laidKinds := [.data, .data, .data, .data, .sentinel, .sentinel, .sentinel, .sentinel, .sentinel, .sentinel, .sentinel, .sentinel, .sentinel, .sentinel, .sentinel, .sentinel, .pinned], laidTests := true, laidLooks := .later }
def MatchLongUptoCardSaid : Prop := Claim7.holds Tryz.pinned (.plain (OpenSpec.upto matchLongSpec)) matchLongUptoCard

/-- THE SECOND FORM's CARD OF 'rosterlaw06.MatchNumbers'. -/
def matchNumbersUptoCard : Claim7 := { stood := { row := matchNumbersUptoRow, standIns := [], harness := (true, "88eacb18ff9a5a956b7e90251d1baa894766655df6a46f5cd04c5465f8b86389"), looks := true }, kinds := [], alts := [], laidByText := true, laidKinds := [.data, .data, .data, .data, .sentinel, .sentinel, .sentinel, .sentinel, .sentinel, .sentinel, .sentinel, .sentinel, .sentinel, .sentinel, .sentinel, .sentinel, .pinned], laidTests := true, laidLooks := .later }
def MatchNumbersUptoCardSaid : Prop := Claim7.holds Tryz.pinned (.plain (OpenSpec.upto matchNumbersSpec)) matchNumbersUptoCard
end Rows
end Go.Proofs.YtjokpcggdaoleaaGreatDoor
