/-
  DERIVED. GIVEN WITH THE SEED: THE CARDS: each row of YtnboimoncpphlabDoorRows.lean that lists a variable, with what it lists TIED to the program's text (the seventh form; the later family's looks); each row that meets fmt, with fmt's text TOLD by the authors' own Lean function (tested against real Go, not proved from fmt's source: count such statements apart). THE CARD IS WHAT COUNTS. Prove the row's statement (the work); the ties are given (YtnboimoncpphlabDoorTie.lean); close each card by the builder's one call (the guide's Derived/Test/ToyasCard.lean, 'card_holds'). Laid BY PROGRAM, IN A SANDBOX (cutbox-door.mjs). By AI agents, Wed Nov 11 2026. No macro, syntax, notation, axiom, sorry.
-/
import Derived.Test.YtnboimoncpphlabDoorRows
import GoSem.ClaimSeven
namespace Go.Proofs.YtnboimoncpphlabDoor
namespace Rows

/-- THE TIED CARD OF 'rosterlaw04.AttrOrder'. -/
def attrOrderCard : Claim7 := { stood := { row := attrOrderRow, standIns := [], harness := (true, "ff10fd32cb654531b390bfa5269f7179e356549f8789a1ed5c3f3661e64a8cae"), looks := false }, kinds := [], alts := [], laidByText := true, laidKinds := [.data], laidTests := true, laidLooks := .later }
def AttrOrderCardSaid : Prop := Claim7.holds Tryd.pinned (.plain (OpenSpec.ofChange attrOrderSpec)) attrOrderCard

/-- THE TIED CARD OF 'rosterlaw04.AttrCanonical'. -/
def attrCanonicalCard : Claim7 := { stood := { row := attrCanonicalRow, standIns := [], harness := (true, "ff10fd32cb654531b390bfa5269f7179e356549f8789a1ed5c3f3661e64a8cae"), looks := false }, kinds := [], alts := [], laidByText := true, laidKinds := [.data, .data], laidTests := true, laidLooks := .later }
def AttrCanonicalCardSaid : Prop := Claim7.holds Tryd.pinned (.plain (OpenSpec.ofChange attrCanonicalSpec)) attrCanonicalCard

/-- THE TIED CARD OF 'rosterlaw04.AttrSpelling'. -/
def attrSpellingCard : Claim7 := { stood := { row := attrSpellingRow, standIns := [], harness := (true, "ff10fd32cb654531b390bfa5269f7179e356549f8789a1ed5c3f3661e64a8cae"), looks := false }, kinds := [], alts := [], laidByText := true, laidKinds := [.data, .data, .data, .data], laidTests := true, laidLooks := .later }
def AttrSpellingCardSaid : Prop := Claim7.holds Tryd.pinned (.plain (OpenSpec.ofChange attrSpellingSpec)) attrSpellingCard

/-- THE TIED CARD OF 'rosterlaw04.AttrSyntaxes'. -/
def attrSyntaxesCard : Claim7 := { stood := { row := attrSyntaxesRow, standIns := [], harness := (true, "ff10fd32cb654531b390bfa5269f7179e356549f8789a1ed5c3f3661e64a8cae"), looks := false }, kinds := [], alts := [], laidByText := true, laidKinds := [.data, .data, .data], laidTests := true, laidLooks := .later }
def AttrSyntaxesCardSaid : Prop := Claim7.holds Tryd.pinned (.plain (OpenSpec.ofChange attrSyntaxesSpec)) attrSyntaxesCard

/-- THE TIED CARD OF 'rosterlaw04.AttrCovers'. -/
def attrCoversCard : Claim7 := { stood := { row := attrCoversRow, standIns := [], harness := (true, "ff10fd32cb654531b390bfa5269f7179e356549f8789a1ed5c3f3661e64a8cae"), looks := false }, kinds := [], alts := [], laidByText := true, laidKinds := [.data, .data], laidTests := true, laidLooks := .later }
def AttrCoversCardSaid : Prop := Claim7.holds Tryd.pinned (.plain (OpenSpec.ofChange attrCoversSpec)) attrCoversCard

/-- THE TIED CARD OF 'rosterlaw04.AttrKept'. -/
def attrKeptCard : Claim7 := { stood := { row := attrKeptRow, standIns := [], harness := (true, "ff10fd32cb654531b390bfa5269f7179e356549f8789a1ed5c3f3661e64a8cae"), looks := false }, kinds := [], alts := [], laidByText := true, laidKinds := [.data, .data, .data, .data], laidTests := true, laidLooks := .later }
def AttrKeptCardSaid : Prop := Claim7.holds Tryd.pinned (.plain (OpenSpec.ofChange attrKeptSpec)) attrKeptCard

/-- THE SECOND FORM's CARD OF 'rosterlaw04.AttrOrder'. -/
def attrOrderUptoCard : Claim7 := { stood := { row := attrOrderUptoRow, standIns := [], harness := (true, "ff10fd32cb654531b390bfa5269f7179e356549f8789a1ed5c3f3661e64a8cae"), looks := false }, kinds := [], alts := [], laidByText := true, laidKinds := [.data], laidTests := true, laidLooks := .later }
def AttrOrderUptoCardSaid : Prop := Claim7.holds Tryd.pinned (.plain (OpenSpec.upto attrOrderSpec)) attrOrderUptoCard

/-- THE SECOND FORM's CARD OF 'rosterlaw04.AttrCanonical'. -/
def attrCanonicalUptoCard : Claim7 := { stood := { row := attrCanonicalUptoRow, standIns := [], harness := (true, "ff10fd32cb654531b390bfa5269f7179e356549f8789a1ed5c3f3661e64a8cae"), looks := false }, kinds := [], alts := [], laidByText := true, laidKinds := [.data, .data], laidTests := true, laidLooks := .later }
def AttrCanonicalUptoCardSaid : Prop := Claim7.holds Tryd.pinned (.plain (OpenSpec.upto attrCanonicalSpec)) attrCanonicalUptoCard

/-- THE SECOND FORM's CARD OF 'rosterlaw04.AttrSpelling'. -/
def attrSpellingUptoCard : Claim7 := { stood := { row := attrSpellingUptoRow, standIns := [], harness := (true, "ff10fd32cb654531b390bfa5269f7179e356549f8789a1ed5c3f3661e64a8cae"), looks := false }, kinds := [], alts := [], laidByText := true, laidKinds := [.data, .data, .data, .data], laidTests := true, laidLooks := .later }
def AttrSpellingUptoCardSaid : Prop := Claim7.holds Tryd.pinned (.plain (OpenSpec.upto attrSpellingSpec)) attrSpellingUptoCard

/-- THE SECOND FORM's CARD OF 'rosterlaw04.AttrSyntaxes'. -/
def attrSyntaxesUptoCard : Claim7 := { stood := { row := attrSyntaxesUptoRow, standIns := [], harness := (true, "ff10fd32cb654531b390bfa5269f7179e356549f8789a1ed5c3f3661e64a8cae"), looks := false }, kinds := [], alts := [], laidByText := true, laidKinds := [.data, .data, .data], laidTests := true, laidLooks := .later }
def AttrSyntaxesUptoCardSaid : Prop := Claim7.holds Tryd.pinned (.plain (OpenSpec.upto attrSyntaxesSpec)) attrSyntaxesUptoCard

/-- THE SECOND FORM's CARD OF 'rosterlaw04.AttrCovers'. -/
def attrCoversUptoCard : Claim7 := { stood := { row := attrCoversUptoRow, standIns := [], harness := (true, "ff10fd32cb654531b390bfa5269f7179e356549f8789a1ed5c3f3661e64a8cae"), looks := false }, kinds := [], alts := [], laidByText := true, laidKinds := [.data, .data], laidTests := true, laidLooks := .later }
def AttrCoversUptoCardSaid : Prop := Claim7.holds Tryd.pinned (.plain (OpenSpec.upto attrCoversSpec)) attrCoversUptoCard

/-- THE SECOND FORM's CARD OF 'rosterlaw04.AttrKept'. -/
def attrKeptUptoCard : Claim7 := { stood := { row := attrKeptUptoRow, standIns := [], harness := (true, "ff10fd32cb654531b390bfa5269f7179e356549f8789a1ed5c3f3661e64a8cae"), looks := false }, kinds := [], alts := [], laidByText := true, laidKinds := [.data, .data, .data, .data], laidTests := true, laidLooks := .later }
def AttrKeptUptoCardSaid : Prop := Claim7.holds Tryd.pinned (.plain (OpenSpec.upto attrKeptSpec)) attrKeptUptoCard
end Rows
end Go.Proofs.YtnboimoncpphlabDoor
