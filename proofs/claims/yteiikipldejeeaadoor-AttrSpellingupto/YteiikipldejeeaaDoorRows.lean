/-
  NARROWER THAN 'FOR EVERY INPUT', by the rows' own cells (each row's printed sentence says how): AttrSpelling: laid.
  DERIVED. THE GIVEN ROWS OF THIS SEAT. 1 by the template 'for every input the law returns true; each argument reads behind the call as it read before'; 0 by the template 'total and deterministic' (their statements: YteiikipldejeeaaDoorTotals.lean).
  GIVEN WITH THE SEED: the statements are not yours to turn. If you find one false, say at which input.
  Laid BY PROGRAM, IN A SANDBOX (cutbox-rows.mjs): the forced cells as the released guide's own fill.sh prints them over the translation d3d684f3046ad436… (all of the seat's roots in one cut). By AI agents, Wed Nov 11 2026. No macro, syntax, notation, axiom, sorry.
-/
import Derived.Test.YteiikipldejeeaaDoorChecked
import GoSem.Claim
import GoSem.ClaimJoined
import GoSem.ClaimMapViews
import Derived.JoinedTies
import Derived.KernelRfl
namespace Go.Proofs.YteiikipldejeeaaDoor
/- THE CELL 'sum', in the pinned program and in every row, IS THE sha256 OF THE DUMP (.gsa) THAT YteiikipldejeeaaDoorProg.lean LOADS. Nothing in Lean hashes anything: it is a label: what it is worth is what the hold of that sum in a sandbox is worth. -/
noncomputable def Tryd.pinned : Pinned := { name := "yteiikipldejeeaadoor", sum := "d3d684f3046ad4361d21aafea9df4b0943beca3c52a71f0884ff64e1a3e9e039", checked := Tryd.checked }
namespace Rows
def none {H : Type} : Left H := { results := [], args := [] }

/- WHAT THE LISTED PACKAGE-LEVEL VARIABLES READ AS WHEN THE CALL BEGINS. Each datum BY PROGRAM (the guide's laid-datum.mjs) off the statement by which the dump's own 'gosem.cut.vars' lays the variable. In a bare row this is a premise. The card (YteiikipldejeeaaDoorCards.lean) ties it to the program's text. -/
def laid_roster_attr_supers {H : Type} : DataW H := .agg [.lit (.int .i64 0), .lit (.int .i64 0), .lit (.int .i64 0), .lit (.int .i64 0), .lit (.int .i64 2), .lit (.int .i64 2), .lit (.int .i64 0), .lit (.int .i64 2), .lit (.int .i64 2), .lit (.int .i64 2), .lit (.int .i64 0), .lit (.int .i64 2), .lit (.int .i64 2), .lit (.int .i64 2), .lit (.int .i64 0), .lit (.int .i64 0), .lit (.int .i64 0), .lit (.int .i64 0), .lit (.int .i64 0), .lit (.int .i64 0), .lit (.int .i64 0), .lit (.int .i64 0), .lit (.int .i64 0), .lit (.int .i64 0), .lit (.int .i64 16), .lit (.int .i64 0), .lit (.int .i64 3), .lit (.int .i64 3), .lit (.int .i64 3), .lit (.int .i64 3), .lit (.int .i64 0), .lit (.int .i64 2), .lit (.int .i64 2), .lit (.int .i64 2), .lit (.int .i64 0), .lit (.int .i64 0), .lit (.int .i64 8), .lit (.int .i64 9), .lit (.int .i64 11), .lit (.int .i64 12), .lit (.int .i64 0), .lit (.int .i64 0), .lit (.int .i64 0), .lit (.int .i64 0), .lit (.int .i64 0), .lit (.int .i64 0), .lit (.int .i64 0), .lit (.int .i64 0), .lit (.int .i64 0), .lit (.int .i64 0), .lit (.int .i64 0), .lit (.int .i64 0), .lit (.int .i64 0), .lit (.int .i64 0), .lit (.int .i64 0), .lit (.int .i64 0), .lit (.int .i64 0), .lit (.int .i64 0), .lit (.int .i64 0), .lit (.int .i64 0), .lit (.int .i64 0), .lit (.int .i64 0)]
def laid_roster_attr_syntaxes {H : Type} : DataW H := .agg [.lit (.int .i64 11), .lit (.int .i64 10), .lit (.int .i64 1), .lit (.int .i64 10), .lit (.int .i64 1), .lit (.int .i64 1), .lit (.int .i64 1), .lit (.int .i64 1), .lit (.int .i64 1), .lit (.int .i64 1), .lit (.int .i64 1), .lit (.int .i64 1), .lit (.int .i64 1), .lit (.int .i64 1), .lit (.int .i64 1), .lit (.int .i64 1), .lit (.int .i64 13), .lit (.int .i64 1), .lit (.int .i64 1), .lit (.int .i64 1), .lit (.int .i64 6), .lit (.int .i64 6), .lit (.int .i64 5), .lit (.int .i64 5), .lit (.int .i64 13), .lit (.int .i64 1), .lit (.int .i64 10), .lit (.int .i64 10), .lit (.int .i64 10), .lit (.int .i64 10), .lit (.int .i64 9), .lit (.int .i64 1), .lit (.int .i64 1), .lit (.int .i64 1), .lit (.int .i64 1), .lit (.int .i64 1), .lit (.int .i64 1), .lit (.int .i64 1), .lit (.int .i64 1), .lit (.int .i64 1), .lit (.int .i64 1), .lit (.int .i64 3), .lit (.int .i64 1), .lit (.int .i64 10), .lit (.int .i64 6), .lit (.int .i64 10), .lit (.int .i64 3), .lit (.int .i64 6), .lit (.int .i64 6), .lit (.int .i64 1), .lit (.int .i64 1), .lit (.int .i64 7), .lit (.int .i64 7), .lit (.int .i64 4), .lit (.int .i64 4), .lit (.int .i64 2), .lit (.int .i64 12), .lit (.int .i64 12), .lit (.int .i64 10), .lit (.int .i64 10), .lit (.int .i64 8), .lit (.int .i64 14)]
def laid_roster_attr_usages {H : Type} : DataW H := .agg [.lit (.int .i64 0), .lit (.int .i64 0), .lit (.int .i64 0), .lit (.int .i64 0), .lit (.int .i64 0), .lit (.int .i64 0), .lit (.int .i64 0), .lit (.int .i64 0), .lit (.int .i64 0), .lit (.int .i64 0), .lit (.int .i64 0), .lit (.int .i64 0), .lit (.int .i64 0), .lit (.int .i64 0), .lit (.int .i64 0), .lit (.int .i64 0), .lit (.int .i64 0), .lit (.int .i64 0), .lit (.int .i64 0), .lit (.int .i64 0), .lit (.int .i64 0), .lit (.int .i64 0), .lit (.int .i64 0), .lit (.int .i64 0), .lit (.int .i64 0), .lit (.int .i64 0), .lit (.int .i64 0), .lit (.int .i64 0), .lit (.int .i64 0), .lit (.int .i64 0), .lit (.int .i64 0), .lit (.int .i64 0), .lit (.int .i64 0), .lit (.int .i64 0), .lit (.int .i64 0), .lit (.int .i64 0), .lit (.int .i64 0), .lit (.int .i64 0), .lit (.int .i64 0), .lit (.int .i64 0), .lit (.int .i64 0), .lit (.int .i64 0), .lit (.int .i64 0), .lit (.int .i64 0), .lit (.int .i64 0), .lit (.int .i64 0), .lit (.int .i64 0), .lit (.int .i64 0), .lit (.int .i64 0), .lit (.int .i64 0), .lit (.int .i64 0), .lit (.int .i64 0), .lit (.int .i64 0), .lit (.int .i64 0), .lit (.int .i64 0), .lit (.int .i64 0), .lit (.int .i64 1), .lit (.int .i64 1), .lit (.int .i64 1), .lit (.int .i64 1), .lit (.int .i64 1), .lit (.int .i64 0)]
def laid_roster_rosterlaw04_known {H : Type} : DataW H := .agg [.agg [.lit (.string [99, 110]), .lit (.string [99, 111, 109, 109, 111, 110, 78, 97, 109, 101]), .lit (.string [50, 46, 53, 46, 52, 46, 51])], .agg [.lit (.string [115, 110]), .lit (.string [115, 117, 114, 110, 97, 109, 101]), .lit (.string [50, 46, 53, 46, 52, 46, 52])], .agg [.lit (.string [110, 97, 109, 101]), .lit (.string [110, 97, 109, 101]), .lit (.string [50, 46, 53, 46, 52, 46, 52, 49])], .agg [.lit (.string [115, 116, 114, 101, 101, 116]), .lit (.string [115, 116, 114, 101, 101, 116, 65, 100, 100, 114, 101, 115, 115]), .lit (.string [50, 46, 53, 46, 52, 46, 57])], .agg [.lit (.string [99, 45, 111, 117]), .lit (.string [67, 45, 79, 85]), .lit (.string [50, 46, 53, 46, 52, 46, 49, 49, 46, 49])], .agg [.lit (.string [100, 99]), .lit (.string [100, 111, 109, 97, 105, 110, 67, 111, 109, 112, 111, 110, 101, 110, 116]), .lit (.string [48, 46, 57, 46, 50, 51, 52, 50, 46, 49, 57, 50, 48, 48, 51, 48, 48, 46, 49, 48, 48, 46, 49, 46, 50, 53])], .agg [.lit (.string [117, 105, 100]), .lit (.string [117, 115, 101, 114, 105, 100]), .lit (.string [48, 46, 57, 46, 50, 51, 52, 50, 46, 49, 57, 50, 48, 48, 51, 48, 48, 46, 49, 48, 48, 46, 49, 46, 49])], .agg [.lit (.string [109, 97, 105, 108]), .lit (.string [114, 102, 99, 56, 50, 50, 77, 97, 105, 108, 98, 111, 120]), .lit (.string [48, 46, 57, 46, 50, 51, 52, 50, 46, 49, 57, 50, 48, 48, 51, 48, 48, 46, 49, 48, 48, 46, 49, 46, 51])], .agg [.lit (.string [111, 98, 106, 101, 99, 116, 99, 108, 97, 115, 115]), .lit (.string [111, 98, 106, 101, 99, 116, 67, 108, 97, 115, 115]), .lit (.string [50, 46, 53, 46, 52, 46, 48])], .agg [.lit (.string [99, 114, 101, 97, 116, 101, 116, 105, 109, 101, 115, 116, 97, 109, 112]), .lit (.string [99, 114, 101, 97, 116, 101, 84, 105, 109, 101, 115, 116, 97, 109, 112]), .lit (.string [50, 46, 53, 46, 49, 56, 46, 49])]]

/-- 'rosterlaw04.AttrSpelling': WHATEVER THE INPUT: true; the input reads as it did. -/
def attrSpellingSpec : ChangeSpec := { name := "attrSpelling", fn := fun _ => fun
  | [d1, d2, d3] => { results := [.lit (.bool true)], args := [d1, d2, d3] }
  | _ => none }
def attrSpellingRow : OpenClaim := { program := "yteiikipldejeeaadoor", sum := "d3d684f3046ad4361d21aafea9df4b0943beca3c52a71f0884ff64e1a3e9e039", func := "roster/rosterlaw04.AttrSpelling", spec := "attrSpelling", inPlace := ["internal/abi.NoEscape"], unfollowed := true, recurses := true, named := ["roster/rosterlaw04.known", "roster/attr.syntaxes", "roster/attr.usages", "roster/attr.supers"], apart := false, laid := [("roster/attr.supers", laid_roster_attr_supers), ("roster/attr.syntaxes", laid_roster_attr_syntaxes), ("roster/attr.usages", laid_roster_attr_usages), ("roster/rosterlaw04.known", laid_roster_rosterlaw04_known)] }
def AttrSpellingSaid : Prop := attrSpellingRow.holds Tryd.pinned (OpenSpec.ofChange attrSpellingSpec)

/-- ITS FALSE NEIGHBOUR: 'it returns false'. Refute it at one input. -/
def attrSpellingWrong : ChangeSpec := { name := "attrSpelling", fn := fun _ => fun
  | [d1, d2, d3] => { results := [.lit (.bool false)], args := [d1, d2, d3] }
  | _ => none }
def AttrSpellingWrongFalsely : Prop := attrSpellingRow.holds Tryd.pinned (OpenSpec.ofChange attrSpellingWrong)

/- THE SECOND FORM. 'bulk': how many values and letters a reading holds, each counted each time it is reached (what is shared counts as often as it is met; a slice's spare places count too). A statement '..UptoSaid' is the law's where the arguments, and the package variables that the reading takes, are together of bulk at most 1048576: NARROWER than '..Said'. Prove '..Said' where nothing that the law and all that it calls make is longer than what came in: it says more and counts as full. Else prove '..UptoSaid'. A law counts once. -/
mutual
def uptoBulk {H : Type} : DataW H → Nat
  | .lit (.string bytes) => bytes.length + 1
  | .lit _ => 1
  | .nil => 1
  | .ptr d => uptoBulk d + 1
  | .slice elems spare => uptoBulkAll elems + uptoBulkAll spare + 1
  | .agg parts => uptoBulkAll parts + 1
  | .iface _ d => uptoBulk d + 1
  | .map entries => uptoBulkEntries entries + 1
  | .held _ => 1
def uptoBulkAll {H : Type} : List (DataW H) → Nat
  | [] => 0
  | d :: r => uptoBulk d + uptoBulkAll r
def uptoBulkEntries {H : Type} : List (Lit × DataW H) → Nat
  | [] => 0
  | x :: r => uptoBulkEntry x + uptoBulkEntries r
def uptoBulkEntry {H : Type} : Lit × DataW H → Nat
  | (.string bytes, d) => bytes.length + uptoBulk d + 1
  | (_, d) => uptoBulk d + 1
 end
def uptoSmall : (H : Type) → List (DataW H) → Bool := fun _ ds => decide (uptoBulkAll ds ≤ 1048576)
def OpenSpec.upto (s : _root_.Go.ChangeSpec) : _root_.Go.OpenSpec := { _root_.Go.OpenSpec.ofChange s with cond := some uptoSmall }

/-- 'rosterlaw04.AttrSpelling', WHERE WHAT IT READS IS OF BULK AT MOST 1048576: true; the input reads as it did. -/
def attrSpellingUptoRow : OpenClaim := { program := "yteiikipldejeeaadoor", sum := "d3d684f3046ad4361d21aafea9df4b0943beca3c52a71f0884ff64e1a3e9e039", func := "roster/rosterlaw04.AttrSpelling", spec := "attrSpelling", inPlace := ["internal/abi.NoEscape"], unfollowed := true, recurses := true, named := ["roster/rosterlaw04.known", "roster/attr.syntaxes", "roster/attr.usages", "roster/attr.supers"], apart := false, laid := [("roster/attr.supers", laid_roster_attr_supers), ("roster/attr.syntaxes", laid_roster_attr_syntaxes), ("roster/attr.usages", laid_roster_attr_usages), ("roster/rosterlaw04.known", laid_roster_rosterlaw04_known)], narrowed := true }
def AttrSpellingUptoSaid : Prop := attrSpellingUptoRow.holds Tryd.pinned (OpenSpec.upto attrSpellingSpec)

end Rows
end Go.Proofs.YteiikipldejeeaaDoor
