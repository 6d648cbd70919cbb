/-
  DERIVED. GIVEN WITH THE SEED: THE CARDS: each row of YtfpphhbpoaobfaaGreatDoorRows.lean that lists a variable, with what it lists TIED to the program's text (the seventh form; the later family's looks); each row that meets fmt, with fmt's text TOLD by the authors' own Lean function (tested against real Go, not proved from fmt's source: count such statements apart). THE CARD IS WHAT COUNTS. Prove the row's statement (the work); the ties are given (YtfpphhbpoaobfaaGreatDoorTie.lean); close each card by the builder's one call (the guide's Derived/Test/ToyasCard.lean, 'card_holds'). Laid BY PROGRAM, IN A SANDBOX (cutbox-door.mjs). By AI agents, Wed Nov 11 2026. No macro, syntax, notation, axiom, sorry.
-/
import Derived.Test.YtfpphhbpoaobfaaGreatDoorRows
import GoSem.ClaimSeven
namespace Go.Proofs.YtfpphhbpoaobfaaGreatDoor
namespace Rows

/-- THE TIED CARD OF 'rosterlaw07.LdifGoesOn'. -/
def ldifGoesOnCard : Claim7 := { stood := { row := ldifGoesOnRow, standIns := [], harness := (true, "4b1d8345915d347e06500de6f28099caaaeda415e6bc78a467b098462987a284"), looks := false }, kinds := [], alts := [], laidByText := true, laidKinds := [.data, .data, .data, .pinned], laidTests := true, laidLooks := .later }
def LdifGoesOnCardSaid : Prop := Claim7.holds Tryz.pinned (.plain (OpenSpec.ofChange ldifGoesOnSpec)) ldifGoesOnCard

/-- THE TIED CARD OF 'rosterlaw07.LdifComment'. -/
def ldifCommentCard : Claim7 := { stood := { row := ldifCommentRow, standIns := [], harness := (true, "4b1d8345915d347e06500de6f28099caaaeda415e6bc78a467b098462987a284"), looks := false }, kinds := [], alts := [], laidByText := true, laidKinds := [.data, .data, .data, .pinned], laidTests := true, laidLooks := .later }
def LdifCommentCardSaid : Prop := Claim7.holds Tryz.pinned (.plain (OpenSpec.ofChange ldifCommentSpec)) ldifCommentCard

/-- THE TIED CARD OF 'rosterlaw07.LdifJoin'. -/
def ldifJoinCard : Claim7 := { stood := { row := ldifJoinRow, standIns := [], harness := (true, "4b1d8345915d347e06500de6f28099caaaeda415e6bc78a467b098462987a284"), looks := false }, kinds := [], alts := [], laidByText := true, laidKinds := [.data, .data, .data, .data, .pinned], laidTests := true, laidLooks := .later }
def LdifJoinCardSaid : Prop := Claim7.holds Tryz.pinned (.plain (OpenSpec.ofChange ldifJoinSpec)) ldifJoinCard

/-- THE TIED CARD OF 'rosterlaw07.LdifRenderLoad'. -/
def ldifRenderLoadCard : Claim7 := { stood := { row := ldifRenderLoadRow, standIns := [], harness := (true, "4b1d8345915d347e06500de6f28099caaaeda415e6bc78a467b098462987a284"), looks := false }, kinds := [], alts := [], laidByText := true, laidKinds := [.data, .data, .data, .data, .pinned], laidTests := true, laidLooks := .later }
def LdifRenderLoadCardSaid : Prop := Claim7.holds Tryz.pinned (.plain (OpenSpec.ofChange ldifRenderLoadSpec)) ldifRenderLoadCard

/-- THE SECOND FORM's CARD OF 'rosterlaw07.LdifGoesOn'. -/
def ldifGoesOnUptoCard : Claim7 := { stood := { row := ldifGoesOnUptoRow, standIns := [], harness := (true, "4b1d8345915d347e06500de6f28099caaaeda415e6bc78a467b098462987a284"), looks := false }, kinds := [], alts := [], laidByText := true, laidKinds := [.data, .data, .data, .pinned], laidTests := true, laidLooks := .later }
def LdifGoesOnUptoCardSaid : Prop := Claim7.holds Tryz.pinned (.plain (OpenSpec.upto ldifGoesOnSpec)) ldifGoesOnUptoCard

/-- THE SECOND FORM's CARD OF 'rosterlaw07.LdifComment'. -/
def ldifCommentUptoCard : Claim7 := { stood := { row := ldifCommentUptoRow, standIns := [], harness := (true, "4b1d8345915d347e06500de6f28099caaaeda415e6bc78a467b098462987a284"), looks := false }, kinds := [], alts := [], laidByText := true, laidKinds := [.data, .data, .data, .pinned], laidTests := true, laidLooks := .later }
def LdifCommentUptoCardSaid : Prop := Claim7.holds Tryz.pinned (.plain (OpenSpec.upto ldifCommentSpec)) ldifCommentUptoCard

/-- THE SECOND FORM's CARD OF 'rosterlaw07.LdifJoin'. -/
def ldifJoinUptoCard : Claim7 := { stood := { row := ldifJoinUptoRow, standIns := [], harness := (true, "4b1d8345915d347e06500de6f28099caaaeda415e6bc78a467b098462987a284"), looks := false }, kinds := [], alts := [], laidByText := true, laidKinds := [.data, .data, .data, .data, .pinned], laidTests := true, laidLooks := .later }
def LdifJoinUptoCardSaid : Prop := Claim7.holds Tryz.pinned (.plain (OpenSpec.upto ldifJoinSpec)) ldifJoinUptoCard

/-- THE SECOND FORM's CARD OF 'rosterlaw07.LdifRenderLoad'. -/
def ldifRenderLoadUptoCard : Claim7 := { stood := { row := ldifRenderLoadUptoRow, standIns := [], harness := (true, "4b1d8345915d347e06500de6f28099caaaeda415e6bc78a467b098462987a284"), looks := false }, kinds := [], alts := [], laidByText := true, laidKinds := [.data, .data, .data, .data, .pinned], laidTests := true, laidLooks := .later }
def LdifRenderLoadUptoCardSaid : Prop := Claim7.holds Tryz.pinned (.plain (OpenSpec.upto ldifRenderLoadSpec)) ldifRenderLoadUptoCard
end Rows
end Go.Proofs.YtfpphhbpoaobfaaGreatDoor
