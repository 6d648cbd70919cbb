/-
  DERIVED. GIVEN WITH THE SEED: THE CARDS: each row of YthgpinamglpniaaDoorRows.lean that lists a variable, with what it lists TIED to the program's text (the seventh form; the later family's looks); each row that meets fmt, with fmt's text TOLD by the authors' own Lean function (tested against real Go, not proved from fmt's source: count such statements apart). THE CARD IS WHAT COUNTS. Prove the row's statement (the work); the ties are given (YthgpinamglpniaaDoorTie.lean); close each card by the builder's one call (the guide's Derived/Test/ToyasCard.lean, 'card_holds'). Laid BY PROGRAM, IN A SANDBOX (cutbox-door.mjs). By AI agents, Wed Nov 11 2026. No macro, syntax, notation, axiom, sorry.
-/
import Derived.Test.YthgpinamglpniaaDoorRows
import GoSem.ClaimSeven
namespace Go.Proofs.YthgpinamglpniaaDoor
namespace Rows

/-- THE TIED CARD OF 'rosterlaw01.TextHexRound'. -/
def textHexRoundCard : Claim7 := { stood := { row := textHexRoundRow, standIns := [], harness := (true, "1caccb7702b0cf0485d2372013ea9d01c2cc258b04108eb984632572b0657ea2"), looks := false }, kinds := [], alts := [], laidByText := true, laidKinds := [.data], laidTests := true, laidLooks := .later }
def TextHexRoundCardSaid : Prop := Claim7.holds Tryd.pinned (.plain (OpenSpec.ofChange textHexRoundSpec)) textHexRoundCard

/-- THE TIED CARD OF 'rosterlaw01.TextWritten'. -/
def textWrittenCard : Claim7 := { stood := { row := textWrittenRow, standIns := [], harness := (true, "1caccb7702b0cf0485d2372013ea9d01c2cc258b04108eb984632572b0657ea2"), looks := false }, kinds := [], alts := [], laidByText := true, laidKinds := [.data, .data], laidTests := true, laidLooks := .later }
def TextWrittenCardSaid : Prop := Claim7.holds Tryd.pinned (.plain (OpenSpec.ofChange textWrittenSpec)) textWrittenCard

/-- THE TIED CARD OF 'rosterlaw01.TextHexOnly'. -/
def textHexOnlyCard : Claim7 := { stood := { row := textHexOnlyRow, standIns := [], harness := (true, "1caccb7702b0cf0485d2372013ea9d01c2cc258b04108eb984632572b0657ea2"), looks := false }, kinds := [], alts := [], laidByText := true, laidKinds := [.data], laidTests := true, laidLooks := .later }
def TextHexOnlyCardSaid : Prop := Claim7.holds Tryd.pinned (.plain (OpenSpec.ofChange textHexOnlySpec)) textHexOnlyCard

/-- THE TIED CARD OF 'rosterlaw01.TextBaseRound'. -/
def textBaseRoundCard : Claim7 := { stood := { row := textBaseRoundRow, standIns := [], harness := (true, "1caccb7702b0cf0485d2372013ea9d01c2cc258b04108eb984632572b0657ea2"), looks := false }, kinds := [], alts := [], laidByText := true, laidKinds := [.data, .data, .data, .pinned], laidTests := true, laidLooks := .later }
def TextBaseRoundCardSaid : Prop := Claim7.holds Tryd.pinned (.plain (OpenSpec.ofChange textBaseRoundSpec)) textBaseRoundCard

/-- THE SECOND FORM's CARD OF 'rosterlaw01.TextHexRound'. -/
def textHexRoundUptoCard : Claim7 := { stood := { row := textHexRoundUptoRow, standIns := [], harness := (true, "1caccb7702b0cf0485d2372013ea9d01c2cc258b04108eb984632572b0657ea2"), looks := false }, kinds := [], alts := [], laidByText := true, laidKinds := [.data], laidTests := true, laidLooks := .later }
def TextHexRoundUptoCardSaid : Prop := Claim7.holds Tryd.pinned (.plain (OpenSpec.upto textHexRoundSpec)) textHexRoundUptoCard

/-- THE SECOND FORM's CARD OF 'rosterlaw01.TextWritten'. -/
def textWrittenUptoCard : Claim7 := { stood := { row := textWrittenUptoRow, standIns := [], harness := (true, "1caccb7702b0cf0485d2372013ea9d01c2cc258b04108eb984632572b0657ea2"), looks := false }, kinds := [], alts := [], laidByText := true, laidKinds := [.data, .data], laidTests := true, laidLooks := .later }
def TextWrittenUptoCardSaid : Prop := Claim7.holds Tryd.pinned (.plain (OpenSpec.upto textWrittenSpec)) textWrittenUptoCard

/-- THE SECOND FORM's CARD OF 'rosterlaw01.TextHexOnly'. -/
def textHexOnlyUptoCard : Claim7 := { stood := { row := textHexOnlyUptoRow, standIns := [], harness := (true, "1caccb7702b0cf0485d2372013ea9d01c2cc258b04108eb984632572b0657ea2"), looks := false }, kinds := [], alts := [], laidByText := true, laidKinds := [.data], laidTests := true, laidLooks := .later }
def TextHexOnlyUptoCardSaid : Prop := Claim7.holds Tryd.pinned (.plain (OpenSpec.upto textHexOnlySpec)) textHexOnlyUptoCard

/-- THE SECOND FORM's CARD OF 'rosterlaw01.TextBaseRound'. -/
def textBaseRoundUptoCard : Claim7 := { stood := { row := textBaseRoundUptoRow, standIns := [], harness := (true, "1caccb7702b0cf0485d2372013ea9d01c2cc258b04108eb984632572b0657ea2"), looks := false }, kinds := [], alts := [], laidByText := true, laidKinds := [.data, .data, .data, .pinned], laidTests := true, laidLooks := .later }
def TextBaseRoundUptoCardSaid : Prop := Claim7.holds Tryd.pinned (.plain (OpenSpec.upto textBaseRoundSpec)) textBaseRoundUptoCard
end Rows
end Go.Proofs.YthgpinamglpniaaDoor
