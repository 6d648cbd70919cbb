/-
  DERIVED. GIVEN WITH THE SEED: THE CARDS: each row of YteiikipldejeeaaDoorRows.lean that lists a variable, with what it lists TIED to the program's text (the seventh form; the later family's looks); each row that meets fmt, with fmt's text TOLD by the authors' own Lean function (tested against real Go, not proved from fmt's source: count such statements apart). THE CARD IS WHAT COUNTS. Prove the row's statement (the work); the ties are given (YteiikipldejeeaaDoorTie.lean); close each card by the builder's one call (the guide's Derived/Test/ToyasCard.lean, 'card_holds'). Laid BY PROGRAM, IN A SANDBOX (cutbox-door.mjs). By AI agents, Wed Nov 11 2026. No macro, syntax, notation, axiom, sorry.
-/
import Derived.Test.YteiikipldejeeaaDoorRows
import GoSem.ClaimSeven
namespace Go.Proofs.YteiikipldejeeaaDoor
namespace Rows

/-- THE TIED CARD OF 'rosterlaw04.AttrSpelling'. -/
def attrSpellingCard : Claim7 := { stood := { row := attrSpellingRow, standIns := [], harness := (true, "932bd78a307a0cc65fb66267931e3450ac24cabdfdceefdce7ebe78b2909cce2"), looks := false }, kinds := [], alts := [], laidByText := true, laidKinds := [.data, .data, .data, .data], laidTests := true, laidLooks := .later }
def AttrSpellingCardSaid : Prop := Claim7.holds Tryd.pinned (.plain (OpenSpec.ofChange attrSpellingSpec)) attrSpellingCard

/-- THE SECOND FORM's CARD OF 'rosterlaw04.AttrSpelling'. -/
def attrSpellingUptoCard : Claim7 := { stood := { row := attrSpellingUptoRow, standIns := [], harness := (true, "932bd78a307a0cc65fb66267931e3450ac24cabdfdceefdce7ebe78b2909cce2"), looks := false }, kinds := [], alts := [], laidByText := true, laidKinds := [.data, .data, .data, .data], laidTests := true, laidLooks := .later }
def AttrSpellingUptoCardSaid : Prop := Claim7.holds Tryd.pinned (.plain (OpenSpec.upto attrSpellingSpec)) attrSpellingUptoCard
end Rows
end Go.Proofs.YteiikipldejeeaaDoor
