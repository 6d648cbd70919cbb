/-
  DERIVED. GIVEN WITH THE SEED: THE CARDS: each row of YtgdinncdhjeokaaGreatDoorRows.lean that lists a variable, with what it lists TIED to the program's text (the seventh form; the later family's looks); each row that meets fmt, with fmt's text TOLD by the authors' own Lean function (tested against real Go, not proved from fmt's source: count such statements apart). THE CARD IS WHAT COUNTS. Prove the row's statement (the work); the ties are given (YtgdinncdhjeokaaGreatDoorTie.lean); close each card by the builder's one call (the guide's Derived/Test/ToyasCard.lean, 'card_holds'). Laid BY PROGRAM, IN A SANDBOX (cutbox-door.mjs). By AI agents, Wed Nov 11 2026. No macro, syntax, notation, axiom, sorry.
-/
import Derived.Test.YtgdinncdhjeokaaGreatDoorRows
import GoSem.ClaimSeven
namespace Go.Proofs.YtgdinncdhjeokaaGreatDoor
namespace Rows

/-- THE TIED CARD OF 'rosterlaw07.LdifRaw'. -/
def ldifRawCard : Claim7 := { stood := { row := ldifRawRow, standIns := [], harness := (true, "9cc30dbcf219b4cbd19e4c60eddea4f0d8604313dd9c4493064a3d125bc0d3aa"), looks := false }, kinds := [], alts := [], laidByText := true, laidKinds := [.data, .data, .data, .data, .pinned], laidTests := true, laidLooks := .later }
def LdifRawCardSaid : Prop := Claim7.holds Tryz.pinned (.plain (OpenSpec.ofChange ldifRawSpec)) ldifRawCard

/-- THE TIED CARD OF 'rosterlaw07.LdifGoesOn'. -/
def ldifGoesOnCard : Claim7 := { stood := { row := ldifGoesOnRow, standIns := [], harness := (true, "9cc30dbcf219b4cbd19e4c60eddea4f0d8604313dd9c4493064a3d125bc0d3aa"), looks := false }, kinds := [], alts := [], laidByText := true, laidKinds := [.data, .data, .data, .pinned], laidTests := true, laidLooks := .later }
def LdifGoesOnCardSaid : Prop := Claim7.holds Tryz.pinned (.plain (OpenSpec.ofChange ldifGoesOnSpec)) ldifGoesOnCard

/-- THE TIED CARD OF 'rosterlaw07.LdifEnds'. -/
def ldifEndsCard : Claim7 := { stood := { row := ldifEndsRow, standIns := [], harness := (true, "9cc30dbcf219b4cbd19e4c60eddea4f0d8604313dd9c4493064a3d125bc0d3aa"), looks := false }, kinds := [], alts := [], laidByText := true, laidKinds := [.data, .data, .data, .pinned], laidTests := true, laidLooks := .later }
def LdifEndsCardSaid : Prop := Claim7.holds Tryz.pinned (.plain (OpenSpec.ofChange ldifEndsSpec)) ldifEndsCard

/-- THE TIED CARD OF 'rosterlaw07.LdifRefoldSame'. -/
def ldifRefoldSameCard : Claim7 := { stood := { row := ldifRefoldSameRow, standIns := [], harness := (true, "9cc30dbcf219b4cbd19e4c60eddea4f0d8604313dd9c4493064a3d125bc0d3aa"), looks := false }, kinds := [], alts := [], laidByText := true, laidKinds := [.data, .data, .data, .pinned], laidTests := true, laidLooks := .later }
def LdifRefoldSameCardSaid : Prop := Claim7.holds Tryz.pinned (.plain (OpenSpec.ofChange ldifRefoldSameSpec)) ldifRefoldSameCard

/-- THE SECOND FORM's CARD OF 'rosterlaw07.LdifRaw'. -/
def ldifRawUptoCard : Claim7 := { stood := { row := ldifRawUptoRow, standIns := [], harness := (true, "9cc30dbcf219b4cbd19e4c60eddea4f0d8604313dd9c4493064a3d125bc0d3aa"), looks := false }, kinds := [], alts := [], laidByText := true, laidKinds := [.data, .data, .data, .data, .pinned], laidTests := true, laidLooks := .later }
def LdifRawUptoCardSaid : Prop := Claim7.holds Tryz.pinned (.plain (OpenSpec.upto ldifRawSpec)) ldifRawUptoCard

/-- THE SECOND FORM's CARD OF 'rosterlaw07.LdifGoesOn'. -/
def ldifGoesOnUptoCard : Claim7 := { stood := { row := ldifGoesOnUptoRow, standIns := [], harness := (true, "9cc30dbcf219b4cbd19e4c60eddea4f0d8604313dd9c4493064a3d125bc0d3aa"), looks := false }, kinds := [], alts := [], laidByText := true, laidKinds := [.data, .data, .data, .pinned], laidTests := true, laidLooks := .later }
def LdifGoesOnUptoCardSaid : Prop := Claim7.holds Tryz.pinned (.plain (OpenSpec.upto ldifGoesOnSpec)) ldifGoesOnUptoCard

/-- THE SECOND FORM's CARD OF 'rosterlaw07.LdifEnds'. -/
def ldifEndsUptoCard : Claim7 := { stood := { row := ldifEndsUptoRow, standIns := [], harness := (true, "9cc30dbcf219b4cbd19e4c60eddea4f0d8604313dd9c4493064a3d125bc0d3aa"), looks := false }, kinds := [], alts := [], laidByText := true, laidKinds := [.data, .data, .data, .pinned], laidTests := true, laidLooks := .later }
def LdifEndsUptoCardSaid : Prop := Claim7.holds Tryz.pinned (.plain (OpenSpec.upto ldifEndsSpec)) ldifEndsUptoCard

/-- THE SECOND FORM's CARD OF 'rosterlaw07.LdifRefoldSame'. -/
def ldifRefoldSameUptoCard : Claim7 := { stood := { row := ldifRefoldSameUptoRow, standIns := [], harness := (true, "9cc30dbcf219b4cbd19e4c60eddea4f0d8604313dd9c4493064a3d125bc0d3aa"), looks := false }, kinds := [], alts := [], laidByText := true, laidKinds := [.data, .data, .data, .pinned], laidTests := true, laidLooks := .later }
def LdifRefoldSameUptoCardSaid : Prop := Claim7.holds Tryz.pinned (.plain (OpenSpec.upto ldifRefoldSameSpec)) ldifRefoldSameUptoCard
end Rows
end Go.Proofs.YtgdinncdhjeokaaGreatDoor
