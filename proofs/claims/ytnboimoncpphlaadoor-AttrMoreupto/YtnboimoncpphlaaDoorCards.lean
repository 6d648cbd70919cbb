/-
  DERIVED. GIVEN WITH THE SEED: THE CARDS: each row of YtnboimoncpphlaaDoorRows.lean that lists a variable, with what it lists TIED to the program's text (the seventh form; the later family's looks); each row that meets fmt, with fmt's text TOLD by the authors' own Lean function (tested against real Go, not proved from fmt's source: count such statements apart). THE CARD IS WHAT COUNTS. Prove the row's statement (the work); the ties are given (YtnboimoncpphlaaDoorTie.lean); close each card by the builder's one call (the guide's Derived/Test/ToyasCard.lean, 'card_holds'). Laid BY PROGRAM, IN A SANDBOX (cutbox-door.mjs). By AI agents, Wed Nov 11 2026. No macro, syntax, notation, axiom, sorry.
-/
import Derived.Test.YtnboimoncpphlaaDoorRows
import GoSem.ClaimSeven
namespace Go.Proofs.YtnboimoncpphlaaDoor
namespace Rows

/-- THE TIED CARD OF 'rosterlaw04.AttrTypes'. -/
def attrTypesCard : Claim7 := { stood := { row := attrTypesRow, standIns := [], harness := (true, "0fc8e1cb21c77c02aa96270d4b097b0a55cdcf6c99aeb560786d2581d57678c5"), looks := false }, kinds := [], alts := [], laidByText := true, laidKinds := [.data, .data, .data, .data], laidTests := true, laidLooks := .later }
def AttrTypesCardSaid : Prop := Claim7.holds Tryd.pinned (.plain (OpenSpec.ofChange attrTypesSpec)) attrTypesCard

/-- THE TIED CARD OF 'rosterlaw04.AttrFinds'. -/
def attrFindsCard : Claim7 := { stood := { row := attrFindsRow, standIns := [], harness := (true, "0fc8e1cb21c77c02aa96270d4b097b0a55cdcf6c99aeb560786d2581d57678c5"), looks := false }, kinds := [], alts := [], laidByText := true, laidKinds := [.data, .data, .data, .data], laidTests := true, laidLooks := .later }
def AttrFindsCardSaid : Prop := Claim7.holds Tryd.pinned (.plain (OpenSpec.ofChange attrFindsSpec)) attrFindsCard

/-- THE TIED CARD OF 'rosterlaw04.AttrMore'. -/
def attrMoreCard : Claim7 := { stood := { row := attrMoreRow, standIns := [], harness := (true, "0fc8e1cb21c77c02aa96270d4b097b0a55cdcf6c99aeb560786d2581d57678c5"), looks := false }, kinds := [], alts := [], laidByText := true, laidKinds := [.data], laidTests := true, laidLooks := .later }
def AttrMoreCardSaid : Prop := Claim7.holds Tryd.pinned (.plain (OpenSpec.ofChange attrMoreSpec)) attrMoreCard

/-- THE TIED CARD OF 'rosterlaw04.AttrSupers'. -/
def attrSupersCard : Claim7 := { stood := { row := attrSupersRow, standIns := [], harness := (true, "0fc8e1cb21c77c02aa96270d4b097b0a55cdcf6c99aeb560786d2581d57678c5"), looks := false }, kinds := [], alts := [], laidByText := true, laidKinds := [.data, .data, .data], laidTests := true, laidLooks := .later }
def AttrSupersCardSaid : Prop := Claim7.holds Tryd.pinned (.plain (OpenSpec.ofChange attrSupersSpec)) attrSupersCard

/-- THE SECOND FORM's CARD OF 'rosterlaw04.AttrTypes'. -/
def attrTypesUptoCard : Claim7 := { stood := { row := attrTypesUptoRow, standIns := [], harness := (true, "0fc8e1cb21c77c02aa96270d4b097b0a55cdcf6c99aeb560786d2581d57678c5"), looks := false }, kinds := [], alts := [], laidByText := true, laidKinds := [.data, .data, .data, .data], laidTests := true, laidLooks := .later }
def AttrTypesUptoCardSaid : Prop := Claim7.holds Tryd.pinned (.plain (OpenSpec.upto attrTypesSpec)) attrTypesUptoCard

/-- THE SECOND FORM's CARD OF 'rosterlaw04.AttrFinds'. -/
def attrFindsUptoCard : Claim7 := { stood := { row := attrFindsUptoRow, standIns := [], harness := (true, "0fc8e1cb21c77c02aa96270d4b097b0a55cdcf6c99aeb560786d2581d57678c5"), looks := false }, kinds := [], alts := [], laidByText := true, laidKinds := [.data, .data, .data, .data], laidTests := true, laidLooks := .later }
def AttrFindsUptoCardSaid : Prop := Claim7.holds Tryd.pinned (.plain (OpenSpec.upto attrFindsSpec)) attrFindsUptoCard

/-- THE SECOND FORM's CARD OF 'rosterlaw04.AttrMore'. -/
def attrMoreUptoCard : Claim7 := { stood := { row := attrMoreUptoRow, standIns := [], harness := (true, "0fc8e1cb21c77c02aa96270d4b097b0a55cdcf6c99aeb560786d2581d57678c5"), looks := false }, kinds := [], alts := [], laidByText := true, laidKinds := [.data], laidTests := true, laidLooks := .later }
def AttrMoreUptoCardSaid : Prop := Claim7.holds Tryd.pinned (.plain (OpenSpec.upto attrMoreSpec)) attrMoreUptoCard

/-- THE SECOND FORM's CARD OF 'rosterlaw04.AttrSupers'. -/
def attrSupersUptoCard : Claim7 := { stood := { row := attrSupersUptoRow, standIns := [], harness := (true, "0fc8e1cb21c77c02aa96270d4b097b0a55cdcf6c99aeb560786d2581d57678c5"), looks := false }, kinds := [], alts := [], laidByText := true, laidKinds := [.data, .data, .data], laidTests := true, laidLooks := .later }
def AttrSupersUptoCardSaid : Prop := Claim7.holds Tryd.pinned (.plain (OpenSpec.upto attrSupersSpec)) attrSupersUptoCard
end Rows
end Go.Proofs.YtnboimoncpphlaaDoor
