/-
  DERIVED. GIVEN WITH THE SEED: THE CARDS: each row of YtkcncepfncdbhaaDoorRows.lean that lists a variable, with what it lists TIED to the program's text (the seventh form; the later family's looks); each row that meets fmt, with fmt's text TOLD by the authors' own Lean function (tested against real Go, not proved from fmt's source: count such statements apart). THE CARD IS WHAT COUNTS. Prove the row's statement (the work); the ties are given (YtkcncepfncdbhaaDoorTie.lean); close each card by the builder's one call (the guide's Derived/Test/ToyasCard.lean, 'card_holds'). Laid BY PROGRAM, IN A SANDBOX (cutbox-door.mjs). By AI agents, Wed Nov 11 2026. No macro, syntax, notation, axiom, sorry.
-/
import Derived.Test.YtkcncepfncdbhaaDoorRows
import GoSem.ClaimSeven
namespace Go.Proofs.YtkcncepfncdbhaaDoor
namespace Rows

/-- THE TIED CARD OF 'rosterlaw07.LdifRenders'. -/
def ldifRendersCard : Claim7 := { stood := { row := ldifRendersRow, standIns := [], harness := (true, "467c35a2d7407fec6edba7c0134ff341be66f1c7267bc12dcbfb2a4a6e5d783e"), looks := false }, kinds := [], alts := [], laidByText := true, laidKinds := [.data, .data], laidTests := true, laidLooks := .later }
def LdifRendersCardSaid : Prop := Claim7.holds Tryd.pinned (.plain (OpenSpec.ofChange ldifRendersSpec)) ldifRendersCard

/-- THE SECOND FORM's CARD OF 'rosterlaw07.LdifRenders'. -/
def ldifRendersUptoCard : Claim7 := { stood := { row := ldifRendersUptoRow, standIns := [], harness := (true, "467c35a2d7407fec6edba7c0134ff341be66f1c7267bc12dcbfb2a4a6e5d783e"), looks := false }, kinds := [], alts := [], laidByText := true, laidKinds := [.data, .data], laidTests := true, laidLooks := .later }
def LdifRendersUptoCardSaid : Prop := Claim7.holds Tryd.pinned (.plain (OpenSpec.upto ldifRendersSpec)) ldifRendersUptoCard
end Rows
end Go.Proofs.YtkcncepfncdbhaaDoor
