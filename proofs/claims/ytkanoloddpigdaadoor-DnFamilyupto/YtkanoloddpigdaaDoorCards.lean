/-
  DERIVED. GIVEN WITH THE SEED: THE CARDS: each row of YtkanoloddpigdaaDoorRows.lean that lists a variable, with what it lists TIED to the program's text (the seventh form; the later family's looks); each row that meets fmt, with fmt's text TOLD by the authors' own Lean function (tested against real Go, not proved from fmt's source: count such statements apart). THE CARD IS WHAT COUNTS. Prove the row's statement (the work); the ties are given (YtkanoloddpigdaaDoorTie.lean); close each card by the builder's one call (the guide's Derived/Test/ToyasCard.lean, 'card_holds'). Laid BY PROGRAM, IN A SANDBOX (cutbox-door.mjs). By AI agents, Wed Nov 11 2026. No macro, syntax, notation, axiom, sorry.
-/
import Derived.Test.YtkanoloddpigdaaDoorRows
import GoSem.ClaimSeven
namespace Go.Proofs.YtkanoloddpigdaaDoor
namespace Rows

/-- THE TIED CARD OF 'rosterlaw05.DnSame'. -/
def dnSameCard : Claim7 := { stood := { row := dnSameRow, standIns := [], harness := (true, "f331871cdf3941f2964194a07a8336e6cc8cce7562476476421c65b75c906ca5"), looks := false }, kinds := [], alts := [], laidByText := true, laidKinds := [.sentinel, .sentinel, .sentinel, .sentinel], laidTests := true, laidLooks := .later }
def DnSameCardSaid : Prop := Claim7.holds Tryd.pinned (.plain (OpenSpec.ofChange dnSameSpec)) dnSameCard

/-- THE TIED CARD OF 'rosterlaw05.DnFamily'. -/
def dnFamilyCard : Claim7 := { stood := { row := dnFamilyRow, standIns := [], harness := (true, "f331871cdf3941f2964194a07a8336e6cc8cce7562476476421c65b75c906ca5"), looks := false }, kinds := [], alts := [], laidByText := true, laidKinds := [.sentinel, .sentinel, .sentinel, .sentinel], laidTests := true, laidLooks := .later }
def DnFamilyCardSaid : Prop := Claim7.holds Tryd.pinned (.plain (OpenSpec.ofChange dnFamilySpec)) dnFamilyCard

/-- THE SECOND FORM's CARD OF 'rosterlaw05.DnSame'. -/
def dnSameUptoCard : Claim7 := { stood := { row := dnSameUptoRow, standIns := [], harness := (true, "f331871cdf3941f2964194a07a8336e6cc8cce7562476476421c65b75c906ca5"), looks := false }, kinds := [], alts := [], laidByText := true, laidKinds := [.sentinel, .sentinel, .sentinel, .sentinel], laidTests := true, laidLooks := .later }
def DnSameUptoCardSaid : Prop := Claim7.holds Tryd.pinned (.plain (OpenSpec.upto dnSameSpec)) dnSameUptoCard

/-- THE SECOND FORM's CARD OF 'rosterlaw05.DnFamily'. -/
def dnFamilyUptoCard : Claim7 := { stood := { row := dnFamilyUptoRow, standIns := [], harness := (true, "f331871cdf3941f2964194a07a8336e6cc8cce7562476476421c65b75c906ca5"), looks := false }, kinds := [], alts := [], laidByText := true, laidKinds := [.sentinel, .sentinel, .sentinel, .sentinel], laidTests := true, laidLooks := .later }
def DnFamilyUptoCardSaid : Prop := Claim7.holds Tryd.pinned (.plain (OpenSpec.upto dnFamilySpec)) dnFamilyUptoCard
end Rows
end Go.Proofs.YtkanoloddpigdaaDoor
