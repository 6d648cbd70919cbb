/-
  DERIVED. GIVEN WITH THE SEED: THE CARDS: each row of YtkecaeceeldcaaaGreatDoorRows.lean that lists a variable, with what it lists TIED to the program's text (the seventh form; the later family's looks); each row that meets fmt, with fmt's text TOLD by the authors' own Lean function (tested against real Go, not proved from fmt's source: count such statements apart). THE CARD IS WHAT COUNTS. Prove the row's statement (the work); the ties are given (YtkecaeceeldcaaaGreatDoorTie.lean); close each card by the builder's one call (the guide's Derived/Test/ToyasCard.lean, 'card_holds'). Laid BY PROGRAM, IN A SANDBOX (cutbox-door.mjs). By AI agents, Wed Nov 11 2026. No macro, syntax, notation, axiom, sorry.
-/
import Derived.Test.YtkecaeceeldcaaaGreatDoorRows
import GoSem.ClaimSeven
namespace Go.Proofs.YtkecaeceeldcaaaGreatDoor
namespace Rows

/-- THE TIED CARD OF 'rosterlaw06.MatchByPieces'. -/
def matchByPiecesCard : Claim7 := { stood := { row := matchByPiecesRow, standIns := [], harness := (true, "4acf119420174f0c1126444bff14a2296da8d7241216e938d9979fc8f672232f"), looks := true }, kinds := [], alts := [], laidByText := true, laidKinds := [.data, .data, .data, .data, .sentinel, .sentinel, .sentinel, .sentinel, .sentinel, .sentinel, .sentinel, .sentinel, .sentinel, .sentinel, .sentinel, .sentinel, .pinned], laidTests := true, laidLooks := .later }
def MatchByPiecesCardSaid : Prop := Claim7.holds Tryz.pinned (.plain (OpenSpec.ofChange matchByPiecesSpec)) matchByPiecesCard

/-- THE TIED CARD OF 'rosterlaw06.MatchOwnRule'. -/
def matchOwnRuleCard : Claim7 := { stood := { row := matchOwnRuleRow, standIns := [], harness := (true, "4acf119420174f0c1126444bff14a2296da8d7241216e938d9979fc8f672232f"), looks := true }, kinds := [], alts := [], laidByText := true, laidKinds := [.data, .data, .data, .data, .sentinel, .sentinel, .sentinel, .sentinel, .sentinel, .sentinel, .sentinel, .sentinel, .sentinel, .sentinel, .sentinel, .sentinel, .pinned], laidTests := true, laidLooks := .later }
def MatchOwnRuleCardSaid : Prop := Claim7.holds Tryz.pinned (.plain (OpenSpec.ofChange matchOwnRuleSpec)) matchOwnRuleCard

/-- THE TIED CARD OF 'rosterlaw06.MatchBeneath'. -/
def matchBeneathCard : Claim7 := { stood := { row := matchBeneathRow, standIns := [], harness := (true, "4acf119420174f0c1126444bff14a2296da8d7241216e938d9979fc8f672232f"), looks := true }, kinds := [], alts := [], laidByText := true, laidKinds := [.data, .data, .data, .data, .sentinel, .sentinel, .sentinel, .sentinel, .sentinel, .sentinel, .sentinel, .sentinel, .sentinel, .sentinel, .sentinel, .sentinel, .pinned], laidTests := true, laidLooks := .later }
def MatchBeneathCardSaid : Prop := Claim7.holds Tryz.pinned (.plain (OpenSpec.ofChange matchBeneathSpec)) matchBeneathCard

/-- THE TIED CARD OF 'rosterlaw06.MatchWords'. -/
def matchWordsCard : Claim7 := { stood := { row := matchWordsRow, standIns := [], harness := (true, "4acf119420174f0c1126444bff14a2296da8d7241216e938d9979fc8f672232f"), looks := true }, kinds := [], alts := [], laidByText := true, laidKinds := [.data, .data, .data, .data, .sentinel, .sentinel, .sentinel, .sentinel, .sentinel, .sentinel, .sentinel, .sentinel, .sentinel, .sentinel, .sentinel, .sentinel, .pinned], laidTests := true, laidLooks := .later }
def MatchWordsCardSaid : Prop := Claim7.holds Tryz.pinned (.plain (OpenSpec.ofChange matchWordsSpec)) matchWordsCard

/-- THE SECOND FORM's CARD OF 'rosterlaw06.MatchByPieces'. -/
def matchByPiecesUptoCard : Claim7 := { stood := { row := matchByPiecesUptoRow, standIns := [], harness := (true, "4acf119420174f0c1126444bff14a2296da8d7241216e938d9979fc8f672232f"), looks := true }, kinds := [], alts := [], laidByText := true, laidKinds := [.data, .data, .data, .data, .sentinel, .sentinel, .sentinel, .sentinel, .sentinel, .sentinel, .sentinel, .sentinel, .sentinel, .sentinel, .sentinel, .sentinel, .pinned], laidTests := true, laidLooks := .later }
def MatchByPiecesUptoCardSaid : Prop := Claim7.holds Tryz.pinned (.plain (OpenSpec.upto matchByPiecesSpec)) matchByPiecesUptoCard

/-- THE SECOND FORM's CARD OF 'rosterlaw06.MatchOwnRule'. -/
def matchOwnRuleUptoCard : Claim7 := { stood := { row := matchOwnRuleUptoRow, standIns := [], harness := (true, "4acf119420174f0c1126444bff14a2296da8d7241216e938d9979fc8f672232f"), looks := true }, kinds := [], alts := [], laidByText := true, laidKinds := [.data, .data, .data, .data, .sentinel, .sentinel, .sentinel, .sentinel, .sentinel, .sentinel, .sentinel, .sentinel, .sentinel, .sentinel, .sentinel, .sentinel, .pinned], laidTests := true, laidLooks := .later }
def MatchOwnRuleUptoCardSaid : Prop := Claim7.holds Tryz.pinned (.plain (OpenSpec.upto matchOwnRuleSpec)) matchOwnRuleUptoCard

/-- THE SECOND FORM's CARD OF 'rosterlaw06.MatchBeneath'. -/
def matchBeneathUptoCard : Claim7 := { stood := { row := matchBeneathUptoRow, standIns := [], harness := (true, "4acf119420174f0c1126444bff14a2296da8d7241216e938d9979fc8f672232f"), looks := true }, kinds := [], alts := [], laidByText := true, laidKinds := [.data, .data, .data, .data, .sentinel, .sentinel, .sentinel, .sentinel, .sentinel, .sentinel, .sentinel, .sentinel, .sentinel, .sentinel, .sentinel, .sentinel, .pinned], laidTests := true, laidLooks := .later }
def MatchBeneathUptoCardSaid : Prop := Claim7.holds Tryz.pinned (.plain (OpenSpec.upto matchBeneathSpec)) matchBeneathUptoCard

/-- THE SECOND FORM's CARD OF 'rosterlaw06.MatchWords'. -/
def matchWordsUptoCard : Claim7 := { stood := { row := matchWordsUptoRow, standIns := [], harness := (true, "4acf119420174f0c1126444bff14a2296da8d7241216e938d9979fc8f672232f"), looks := true }, kinds := [], alts := [], laidByText := true, laidKinds := [.data, .data, .data, .data, .sentinel, .sentinel, .sentinel, .sentinel, .sentinel, .sentinel, .sentinel, .sentinel, .sentinel, .sentinel, .sentinel, .sentinel, .pinned], laidTests := true, laidLooks := .later }
def MatchWordsUptoCardSaid : Prop := Claim7.holds Tryz.pinned (.plain (OpenSpec.upto matchWordsSpec)) matchWordsUptoCard
end Rows
end Go.Proofs.YtkecaeceeldcaaaGreatDoor
