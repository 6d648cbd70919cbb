/-
  DERIVED. GIVEN WITH THE SEED: THE CARDS: each row of YtkknenmpdimdbaaDoorRows.lean that lists a variable, with what it lists TIED to the program's text (the seventh form; the later family's looks); each row that meets fmt, with fmt's text TOLD by the authors' own Lean function (tested against real Go, not proved from fmt's source: count such statements apart). THE CARD IS WHAT COUNTS. Prove the row's statement (the work); the ties are given (YtkknenmpdimdbaaDoorTie.lean); close each card by the builder's one call (the guide's Derived/Test/ToyasCard.lean, 'card_holds'). Laid BY PROGRAM, IN A SANDBOX (cutbox-door.mjs). By AI agents, Wed Nov 11 2026. No macro, syntax, notation, axiom, sorry.
-/
import Derived.Test.YtkknenmpdimdbaaDoorRows
import GoSem.ClaimSeven
namespace Go.Proofs.YtkknenmpdimdbaaDoor
namespace Rows

/-- THE TIED CARD OF 'rosterlaw05.DnStrangers'. -/
def dnStrangersCard : Claim7 := { stood := { row := dnStrangersRow, standIns := [], harness := (true, "1ee224a5b07d09537bac94e6468209da7b767dbd041e5525926aabcbf6ed92b9"), looks := true }, kinds := [], alts := [], laidByText := true, laidKinds := [.handle, .sentinel, .sentinel, .sentinel, .sentinel, .sentinel, .sentinel, .sentinel, .sentinel, .sentinel, .sentinel], laidTests := true, laidLooks := .later }
def DnStrangersCardSaid : Prop := Claim7.holds Tryd.pinned (.plain (OpenSpec.ofChange dnStrangersSpec)) dnStrangersCard

/-- THE TIED CARD OF 'rosterlaw05.DnBack'. -/
def dnBackCard : Claim7 := { stood := { row := dnBackRow, standIns := [], harness := (true, "1ee224a5b07d09537bac94e6468209da7b767dbd041e5525926aabcbf6ed92b9"), looks := true }, kinds := [], alts := [], laidByText := true, laidKinds := [.sentinel, .sentinel, .sentinel, .sentinel, .sentinel, .sentinel, .sentinel, .sentinel, .sentinel, .sentinel], laidTests := true, laidLooks := .later }
def DnBackCardSaid : Prop := Claim7.holds Tryd.pinned (.plain (OpenSpec.ofChange dnBackSpec)) dnBackCard

/-- THE SECOND FORM's CARD OF 'rosterlaw05.DnStrangers'. -/
def dnStrangersUptoCard : Claim7 := { stood := { row := dnStrangersUptoRow, standIns := [], harness := (true, "1ee224a5b07d09537bac94e6468209da7b767dbd041e5525926aabcbf6ed92b9"), looks := true }, kinds := [], alts := [], laidByText := true, laidKinds := [.handle, .sentinel, .sentinel, .sentinel, .sentinel, .sentinel, .sentinel, .sentinel, .sentinel, .sentinel, .sentinel], laidTests := true, laidLooks := .later }
def DnStrangersUptoCardSaid : Prop := Claim7.holds Tryd.pinned (.plain (OpenSpec.upto dnStrangersSpec)) dnStrangersUptoCard

/-- THE SECOND FORM's CARD OF 'rosterlaw05.DnBack'. -/
def dnBackUptoCard : Claim7 := { stood := { row := dnBackUptoRow, standIns := [], harness := (true, "1ee224a5b07d09537bac94e6468209da7b767dbd041e5525926aabcbf6ed92b9"), looks := true }, kinds := [], alts := [], laidByText := true, laidKinds := [.sentinel, .sentinel, .sentinel, .sentinel, .sentinel, .sentinel, .sentinel, .sentinel, .sentinel, .sentinel], laidTests := true, laidLooks := .later }
def DnBackUptoCardSaid : Prop := Claim7.holds Tryd.pinned (.plain (OpenSpec.upto dnBackSpec)) dnBackUptoCard
end Rows
end Go.Proofs.YtkknenmpdimdbaaDoor
