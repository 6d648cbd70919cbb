/-
  DERIVED. GIVEN WITH THE SEED: THE CARDS: each row of YtoiilplnhecokaaDoorRows.lean that lists a variable, with what it lists TIED to the program's text (the seventh form; the later family's looks); each row that meets fmt, with fmt's text TOLD by the authors' own Lean function (tested against real Go, not proved from fmt's source: count such statements apart). THE CARD IS WHAT COUNTS. Prove the row's statement (the work); the ties are given (YtoiilplnhecokaaDoorTie.lean); close each card by the builder's one call (the guide's Derived/Test/ToyasCard.lean, 'card_holds'). Laid BY PROGRAM, IN A SANDBOX (cutbox-door.mjs). By AI agents, Wed Nov 11 2026. No macro, syntax, notation, axiom, sorry.
-/
import Derived.Test.YtoiilplnhecokaaDoorRows
import GoSem.ClaimSeven
namespace Go.Proofs.YtoiilplnhecokaaDoor
namespace Rows

/-- THE TIED CARD OF 'rosterlaw05.DnBlind'. -/
def dnBlindCard : Claim7 := { stood := { row := dnBlindRow, standIns := [], harness := (true, "637130a45f5f88aa40535098a238d41fdff63d9da28ac402546ce4a0870b375c"), looks := false }, kinds := [], alts := [], laidByText := true, laidKinds := [.data, .data, .data, .sentinel, .sentinel, .sentinel, .sentinel], laidTests := true, laidLooks := .later }
def DnBlindCardSaid : Prop := Claim7.holds Tryd.pinned (.plain (OpenSpec.ofChange dnBlindSpec)) dnBlindCard

/-- THE SECOND FORM's CARD OF 'rosterlaw05.DnBlind'. -/
def dnBlindUptoCard : Claim7 := { stood := { row := dnBlindUptoRow, standIns := [], harness := (true, "637130a45f5f88aa40535098a238d41fdff63d9da28ac402546ce4a0870b375c"), looks := false }, kinds := [], alts := [], laidByText := true, laidKinds := [.data, .data, .data, .sentinel, .sentinel, .sentinel, .sentinel], laidTests := true, laidLooks := .later }
def DnBlindUptoCardSaid : Prop := Claim7.holds Tryd.pinned (.plain (OpenSpec.upto dnBlindSpec)) dnBlindUptoCard
end Rows
end Go.Proofs.YtoiilplnhecokaaDoor
