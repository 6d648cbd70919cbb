/-
  NARROWER THAN 'FOR EVERY INPUT', by the rows' own cells (each row's printed sentence says how): LdifLoads: laid.
  DERIVED. THE GIVEN ROWS OF THIS SEAT. 1 by the template 'for every input the law returns true; each argument reads behind the call as it read before'; 0 by the template 'total and deterministic' (their statements: YtoomoicjoockjaaGreatDoorTotals.lean).
  GIVEN WITH THE SEED: the statements are not yours to turn. If you find one false, say at which input.
  Laid BY PROGRAM, IN A SANDBOX (cutbox-rows.mjs): the forced cells as the released guide's own fill.sh prints them over the translation a94c93e8be3f78b9… (all of the seat's roots in one cut). By AI agents, Wed Nov 11 2026. No macro, syntax, notation, axiom, sorry.
-/
import Derived.Test.YtoomoicjoockjaaGreatDoorChecked
import GoSem.PinnedTables
import GoSem.Claim
import GoSem.ClaimJoined
import GoSem.ClaimMapViews
import Derived.JoinedTies
import Derived.KernelRfl
namespace Go.Proofs.YtoomoicjoockjaaGreatDoor
/- THE CELL 'sum', in the pinned program and in every row, IS THE sha256 OF THE DUMP (.gsa) THAT YtoomoicjoockjaaGreatDoorProg.lean LOADS. Nothing in Lean hashes anything: it is a label: what it is worth is what the hold of that sum in a sandbox is worth. -/
noncomputable def Tryz.pinned : Pinned := { name := "ytoomoicjoockjaagreatdoor", sum := "a94c93e8be3f78b97956a61abe2eb2d8ff198430d8edb12a7801e79e451f795e", checked := Tryz.checked }
namespace Rows
def none {H : Type} : Left H := { results := [], args := [] }

/- WHAT THE LISTED PACKAGE-LEVEL VARIABLES READ AS WHEN THE CALL BEGINS. Each datum BY PROGRAM (the guide's laid-datum.mjs) off the statement by which the dump's own 'gosem.cut.vars' lays the variable. In a bare row this is a premise. The card (YtoomoicjoockjaaGreatDoorCards.lean) ties it to the program's text. -/
def laid_unicode_utf8_acceptRanges {H : Type} : DataW H := .agg [.agg [.lit (.int .u8 128), .lit (.int .u8 191)], .agg [.lit (.int .u8 160), .lit (.int .u8 191)], .agg [.lit (.int .u8 128), .lit (.int .u8 159)], .agg [.lit (.int .u8 144), .lit (.int .u8 191)], .agg [.lit (.int .u8 128), .lit (.int .u8 143)], .agg [.lit (.int .u8 0), .lit (.int .u8 0)], .agg [.lit (.int .u8 0), .lit (.int .u8 0)], .agg [.lit (.int .u8 0), .lit (.int .u8 0)], .agg [.lit (.int .u8 0), .lit (.int .u8 0)], .agg [.lit (.int .u8 0), .lit (.int .u8 0)], .agg [.lit (.int .u8 0), .lit (.int .u8 0)], .agg [.lit (.int .u8 0), .lit (.int .u8 0)], .agg [.lit (.int .u8 0), .lit (.int .u8 0)], .agg [.lit (.int .u8 0), .lit (.int .u8 0)], .agg [.lit (.int .u8 0), .lit (.int .u8 0)], .agg [.lit (.int .u8 0), .lit (.int .u8 0)]]
def laid_roster_text_base64Worths {H : Type} : DataW H := .agg [.lit (.int .i8 (-1)), .lit (.int .i8 (-1)), .lit (.int .i8 (-1)), .lit (.int .i8 (-1)), .lit (.int .i8 (-1)), .lit (.int .i8 (-1)), .lit (.int .i8 (-1)), .lit (.int .i8 (-1)), .lit (.int .i8 (-1)), .lit (.int .i8 (-1)), .lit (.int .i8 (-1)), .lit (.int .i8 (-1)), .lit (.int .i8 (-1)), .lit (.int .i8 (-1)), .lit (.int .i8 (-1)), .lit (.int .i8 (-1)), .lit (.int .i8 (-1)), .lit (.int .i8 (-1)), .lit (.int .i8 (-1)), .lit (.int .i8 (-1)), .lit (.int .i8 (-1)), .lit (.int .i8 (-1)), .lit (.int .i8 (-1)), .lit (.int .i8 (-1)), .lit (.int .i8 (-1)), .lit (.int .i8 (-1)), .lit (.int .i8 (-1)), .lit (.int .i8 (-1)), .lit (.int .i8 (-1)), .lit (.int .i8 (-1)), .lit (.int .i8 (-1)), .lit (.int .i8 (-1)), .lit (.int .i8 (-1)), .lit (.int .i8 (-1)), .lit (.int .i8 (-1)), .lit (.int .i8 (-1)), .lit (.int .i8 (-1)), .lit (.int .i8 (-1)), .lit (.int .i8 (-1)), .lit (.int .i8 (-1)), .lit (.int .i8 (-1)), .lit (.int .i8 (-1)), .lit (.int .i8 (-1)), .lit (.int .i8 62), .lit (.int .i8 (-1)), .lit (.int .i8 (-1)), .lit (.int .i8 (-1)), .lit (.int .i8 63), .lit (.int .i8 52), .lit (.int .i8 53), .lit (.int .i8 54), .lit (.int .i8 55), .lit (.int .i8 56), .lit (.int .i8 57), .lit (.int .i8 58), .lit (.int .i8 59), .lit (.int .i8 60), .lit (.int .i8 61), .lit (.int .i8 (-1)), .lit (.int .i8 (-1)), .lit (.int .i8 (-1)), .lit (.int .i8 (-1)), .lit (.int .i8 (-1)), .lit (.int .i8 (-1)), .lit (.int .i8 (-1)), .lit (.int .i8 0), .lit (.int .i8 1), .lit (.int .i8 2), .lit (.int .i8 3), .lit (.int .i8 4), .lit (.int .i8 5), .lit (.int .i8 6), .lit (.int .i8 7), .lit (.int .i8 8), .lit (.int .i8 9), .lit (.int .i8 10), .lit (.int .i8 11), .lit (.int .i8 12), .lit (.int .i8 13), .lit (.int .i8 14), .lit (.int .i8 15), .lit (.int .i8 16), .lit (.int .i8 17), .lit (.int .i8 18), .lit (.int .i8 19), .lit (.int .i8 20), .lit (.int .i8 21), .lit (.int .i8 22), .lit (.int .i8 23), .lit (.int .i8 24), .lit (.int .i8 25), .lit (.int .i8 (-1)), .lit (.int .i8 (-1)), .lit (.int .i8 (-1)), .lit (.int .i8 (-1)), .lit (.int .i8 (-1)), .lit (.int .i8 (-1)), .lit (.int .i8 26), .lit (.int .i8 27), .lit (.int .i8 28), .lit (.int .i8 29), .lit (.int .i8 30), .lit (.int .i8 31), .lit (.int .i8 32), .lit (.int .i8 33), .lit (.int .i8 34), .lit (.int .i8 35), .lit (.int .i8 36), .lit (.int .i8 37), .lit (.int .i8 38), .lit (.int .i8 39), .lit (.int .i8 40), .lit (.int .i8 41), .lit (.int .i8 42), .lit (.int .i8 43), .lit (.int .i8 44), .lit (.int .i8 45), .lit (.int .i8 46), .lit (.int .i8 47), .lit (.int .i8 48), .lit (.int .i8 49), .lit (.int .i8 50), .lit (.int .i8 51), .lit (.int .i8 (-1)), .lit (.int .i8 (-1)), .lit (.int .i8 (-1)), .lit (.int .i8 (-1)), .lit (.int .i8 (-1))]
def laid_roster_ldif_changeWords {H : Type} : DataW H := .agg [.lit (.string [99, 104, 97, 110, 103, 101, 116, 121, 112, 101]), .lit (.string [99, 111, 110, 116, 114, 111, 108])]
/-- One of Go's own tables, pinned by name: the form's constant. -/
def laid_unicode_utf8_first : DataW Unit := Go.Pinned.utf8First

/-- 'rosterlaw07.LdifLoads': WHATEVER THE INPUT: true; the input reads as it did. -/
def ldifLoadsSpec : ChangeSpec := { name := "ldifLoads", fn := fun _ => fun
  | [d] => { results := [.lit (.bool true)], args := [d] }
  | _ => none }
def ldifLoadsRow : OpenClaim := { program := "ytoomoicjoockjaagreatdoor", sum := "a94c93e8be3f78b97956a61abe2eb2d8ff198430d8edb12a7801e79e451f795e", func := "roster/rosterlaw07.LdifLoads", spec := "ldifLoads", inPlace := ["internal/bytealg.IndexByteString", "internal/bytealg.IndexString"], unfollowed := true, recurses := true, named := ["internal/bytealg.MaxLen", "roster/ldif.changeWords", "unicode/utf8.first", "unicode/utf8.acceptRanges", "roster/text.base64Worths"], apart := false, laid := [("unicode/utf8.acceptRanges", laid_unicode_utf8_acceptRanges), ("roster/text.base64Worths", laid_roster_text_base64Worths), ("roster/ldif.changeWords", laid_roster_ldif_changeWords), ("unicode/utf8.first", laid_unicode_utf8_first)] }
def LdifLoadsSaid : Prop := ldifLoadsRow.holds Tryz.pinned (OpenSpec.ofChange ldifLoadsSpec)

/-- ITS FALSE NEIGHBOUR: 'it returns false'. Refute it at one input. -/
def ldifLoadsWrong : ChangeSpec := { name := "ldifLoads", fn := fun _ => fun
  | [d] => { results := [.lit (.bool false)], args := [d] }
  | _ => none }
def LdifLoadsWrongFalsely : Prop := ldifLoadsRow.holds Tryz.pinned (OpenSpec.ofChange ldifLoadsWrong)

/- THE SECOND FORM. 'bulk': how many values and letters a reading holds, each counted each time it is reached (what is shared counts as often as it is met; a slice's spare places count too). A statement '..UptoSaid' is the law's where the arguments, and the package variables that the reading takes, are together of bulk at most 1048576: NARROWER than '..Said'. Prove '..Said' where nothing that the law and all that it calls make is longer than what came in: it says more and counts as full. Else prove '..UptoSaid'. A law counts once. -/
mutual
def uptoBulk {H : Type} : DataW H → Nat
  | .lit (.string bytes) => bytes.length + 1
  | .lit _ => 1
  | .nil => 1
  | .ptr d => uptoBulk d + 1
  | .slice elems spare => uptoBulkAll elems + uptoBulkAll spare + 1
  | .agg parts => uptoBulkAll parts + 1
  | .iface _ d => uptoBulk d + 1
  | .map entries => uptoBulkEntries entries + 1
  | .held _ => 1
def uptoBulkAll {H : Type} : List (DataW H) → Nat
  | [] => 0
  | d :: r => uptoBulk d + uptoBulkAll r
def uptoBulkEntries {H : Type} : List (Lit × DataW H) → Nat
  | [] => 0
  | x :: r => uptoBulkEntry x + uptoBulkEntries r
def uptoBulkEntry {H : Type} : Lit × DataW H → Nat
  | (.string bytes, d) => bytes.length + uptoBulk d + 1
  | (_, d) => uptoBulk d + 1
 end
def uptoSmall : (H : Type) → List (DataW H) → Bool := fun _ ds => decide (uptoBulkAll ds ≤ 1048576)
def OpenSpec.upto (s : _root_.Go.ChangeSpec) : _root_.Go.OpenSpec := { _root_.Go.OpenSpec.ofChange s with cond := some uptoSmall }

/-- 'rosterlaw07.LdifLoads', WHERE WHAT IT READS IS OF BULK AT MOST 1048576: true; the input reads as it did. -/
def ldifLoadsUptoRow : OpenClaim := { program := "ytoomoicjoockjaagreatdoor", sum := "a94c93e8be3f78b97956a61abe2eb2d8ff198430d8edb12a7801e79e451f795e", func := "roster/rosterlaw07.LdifLoads", spec := "ldifLoads", inPlace := ["internal/bytealg.IndexByteString", "internal/bytealg.IndexString"], unfollowed := true, recurses := true, named := ["internal/bytealg.MaxLen", "roster/ldif.changeWords", "unicode/utf8.first", "unicode/utf8.acceptRanges", "roster/text.base64Worths"], apart := false, laid := [("unicode/utf8.acceptRanges", laid_unicode_utf8_acceptRanges), ("roster/text.base64Worths", laid_roster_text_base64Worths), ("roster/ldif.changeWords", laid_roster_ldif_changeWords), ("unicode/utf8.first", laid_unicode_utf8_first)], narrowed := true }
def LdifLoadsUptoSaid : Prop := ldifLoadsUptoRow.holds Tryz.pinned (OpenSpec.upto ldifLoadsSpec)

end Rows
end Go.Proofs.YtoomoicjoockjaaGreatDoor
