/-
  NARROWER THAN 'FOR EVERY INPUT', by the rows' own cells (each row's printed sentence says how): TextBases: laid · TextAll: laid.
  DERIVED. THE GIVEN ROWS OF THIS SEAT. 2 by the template 'for every input the law returns true; each argument reads behind the call as it read before'; 0 by the template 'total and deterministic' (their statements: YtilglidhlcmfbaaDoorTotals.lean).
  GIVEN WITH THE SEED: the statements are not yours to turn. If you find one false, say at which input.
  Laid BY PROGRAM, IN A SANDBOX (cutbox-rows.mjs): the forced cells as the released guide's own fill.sh prints them over the translation 3ab855ebc4c17025… (all of the seat's roots in one cut). By AI agents, Wed Nov 11 2026. No macro, syntax, notation, axiom, sorry.
-/
import Derived.Test.YtilglidhlcmfbaaDoorChecked
import GoSem.PinnedTables
import GoSem.Claim
import GoSem.ClaimJoined
import GoSem.ClaimMapViews
import Derived.JoinedTies
import Derived.KernelRfl
namespace Go.Proofs.YtilglidhlcmfbaaDoor
/- THE CELL 'sum', in the pinned program and in every row, IS THE sha256 OF THE DUMP (.gsa) THAT YtilglidhlcmfbaaDoorProg.lean LOADS. Nothing in Lean hashes anything: it is a label: what it is worth is what the hold of that sum in a sandbox is worth. -/
noncomputable def Tryd.pinned : Pinned := { name := "ytilglidhlcmfbaadoor", sum := "3ab855ebc4c17025a98d8363de77eb22062193769e2c4d4d3a75744536dbef34", checked := Tryd.checked }
namespace Rows
def none {H : Type} : Left H := { results := [], args := [] }

/- WHAT THE LISTED PACKAGE-LEVEL VARIABLES READ AS WHEN THE CALL BEGINS. Each datum BY PROGRAM (the guide's laid-datum.mjs) off the statement by which the dump's own 'gosem.cut.vars' lays the variable. In a bare row this is a premise. The card (YtilglidhlcmfbaaDoorCards.lean) ties it to the program's text. -/
def laid_unicode_utf8_acceptRanges {H : Type} : DataW H := .agg [.agg [.lit (.int .u8 128), .lit (.int .u8 191)], .agg [.lit (.int .u8 160), .lit (.int .u8 191)], .agg [.lit (.int .u8 128), .lit (.int .u8 159)], .agg [.lit (.int .u8 144), .lit (.int .u8 191)], .agg [.lit (.int .u8 128), .lit (.int .u8 143)], .agg [.lit (.int .u8 0), .lit (.int .u8 0)], .agg [.lit (.int .u8 0), .lit (.int .u8 0)], .agg [.lit (.int .u8 0), .lit (.int .u8 0)], .agg [.lit (.int .u8 0), .lit (.int .u8 0)], .agg [.lit (.int .u8 0), .lit (.int .u8 0)], .agg [.lit (.int .u8 0), .lit (.int .u8 0)], .agg [.lit (.int .u8 0), .lit (.int .u8 0)], .agg [.lit (.int .u8 0), .lit (.int .u8 0)], .agg [.lit (.int .u8 0), .lit (.int .u8 0)], .agg [.lit (.int .u8 0), .lit (.int .u8 0)], .agg [.lit (.int .u8 0), .lit (.int .u8 0)]]
def laid_roster_text_base64Alphabet {H : Type} : DataW H := .agg [.lit (.int .u8 65), .lit (.int .u8 66), .lit (.int .u8 67), .lit (.int .u8 68), .lit (.int .u8 69), .lit (.int .u8 70), .lit (.int .u8 71), .lit (.int .u8 72), .lit (.int .u8 73), .lit (.int .u8 74), .lit (.int .u8 75), .lit (.int .u8 76), .lit (.int .u8 77), .lit (.int .u8 78), .lit (.int .u8 79), .lit (.int .u8 80), .lit (.int .u8 81), .lit (.int .u8 82), .lit (.int .u8 83), .lit (.int .u8 84), .lit (.int .u8 85), .lit (.int .u8 86), .lit (.int .u8 87), .lit (.int .u8 88), .lit (.int .u8 89), .lit (.int .u8 90), .lit (.int .u8 97), .lit (.int .u8 98), .lit (.int .u8 99), .lit (.int .u8 100), .lit (.int .u8 101), .lit (.int .u8 102), .lit (.int .u8 103), .lit (.int .u8 104), .lit (.int .u8 105), .lit (.int .u8 106), .lit (.int .u8 107), .lit (.int .u8 108), .lit (.int .u8 109), .lit (.int .u8 110), .lit (.int .u8 111), .lit (.int .u8 112), .lit (.int .u8 113), .lit (.int .u8 114), .lit (.int .u8 115), .lit (.int .u8 116), .lit (.int .u8 117), .lit (.int .u8 118), .lit (.int .u8 119), .lit (.int .u8 120), .lit (.int .u8 121), .lit (.int .u8 122), .lit (.int .u8 48), .lit (.int .u8 49), .lit (.int .u8 50), .lit (.int .u8 51), .lit (.int .u8 52), .lit (.int .u8 53), .lit (.int .u8 54), .lit (.int .u8 55), .lit (.int .u8 56), .lit (.int .u8 57), .lit (.int .u8 43), .lit (.int .u8 47)]
def laid_roster_text_base64Worths {H : Type} : DataW H := .agg [.lit (.int .i8 (-1)), .lit (.int .i8 (-1)), .lit (.int .i8 (-1)), .lit (.int .i8 (-1)), .lit (.int .i8 (-1)), .lit (.int .i8 (-1)), .lit (.int .i8 (-1)), .lit (.int .i8 (-1)), .lit (.int .i8 (-1)), .lit (.int .i8 (-1)), .lit (.int .i8 (-1)), .lit (.int .i8 (-1)), .lit (.int .i8 (-1)), .lit (.int .i8 (-1)), .lit (.int .i8 (-1)), .lit (.int .i8 (-1)), .lit (.int .i8 (-1)), .lit (.int .i8 (-1)), .lit (.int .i8 (-1)), .lit (.int .i8 (-1)), .lit (.int .i8 (-1)), .lit (.int .i8 (-1)), .lit (.int .i8 (-1)), .lit (.int .i8 (-1)), .lit (.int .i8 (-1)), .lit (.int .i8 (-1)), .lit (.int .i8 (-1)), .lit (.int .i8 (-1)), .lit (.int .i8 (-1)), .lit (.int .i8 (-1)), .lit (.int .i8 (-1)), .lit (.int .i8 (-1)), .lit (.int .i8 (-1)), .lit (.int .i8 (-1)), .lit (.int .i8 (-1)), .lit (.int .i8 (-1)), .lit (.int .i8 (-1)), .lit (.int .i8 (-1)), .lit (.int .i8 (-1)), .lit (.int .i8 (-1)), .lit (.int .i8 (-1)), .lit (.int .i8 (-1)), .lit (.int .i8 (-1)), .lit (.int .i8 62), .lit (.int .i8 (-1)), .lit (.int .i8 (-1)), .lit (.int .i8 (-1)), .lit (.int .i8 63), .lit (.int .i8 52), .lit (.int .i8 53), .lit (.int .i8 54), .lit (.int .i8 55), .lit (.int .i8 56), .lit (.int .i8 57), .lit (.int .i8 58), .lit (.int .i8 59), .lit (.int .i8 60), .lit (.int .i8 61), .lit (.int .i8 (-1)), .lit (.int .i8 (-1)), .lit (.int .i8 (-1)), .lit (.int .i8 (-1)), .lit (.int .i8 (-1)), .lit (.int .i8 (-1)), .lit (.int .i8 (-1)), .lit (.int .i8 0), .lit (.int .i8 1), .lit (.int .i8 2), .lit (.int .i8 3), .lit (.int .i8 4), .lit (.int .i8 5), .lit (.int .i8 6), .lit (.int .i8 7), .lit (.int .i8 8), .lit (.int .i8 9), .lit (.int .i8 10), .lit (.int .i8 11), .lit (.int .i8 12), .lit (.int .i8 13), .lit (.int .i8 14), .lit (.int .i8 15), .lit (.int .i8 16), .lit (.int .i8 17), .lit (.int .i8 18), .lit (.int .i8 19), .lit (.int .i8 20), .lit (.int .i8 21), .lit (.int .i8 22), .lit (.int .i8 23), .lit (.int .i8 24), .lit (.int .i8 25), .lit (.int .i8 (-1)), .lit (.int .i8 (-1)), .lit (.int .i8 (-1)), .lit (.int .i8 (-1)), .lit (.int .i8 (-1)), .lit (.int .i8 (-1)), .lit (.int .i8 26), .lit (.int .i8 27), .lit (.int .i8 28), .lit (.int .i8 29), .lit (.int .i8 30), .lit (.int .i8 31), .lit (.int .i8 32), .lit (.int .i8 33), .lit (.int .i8 34), .lit (.int .i8 35), .lit (.int .i8 36), .lit (.int .i8 37), .lit (.int .i8 38), .lit (.int .i8 39), .lit (.int .i8 40), .lit (.int .i8 41), .lit (.int .i8 42), .lit (.int .i8 43), .lit (.int .i8 44), .lit (.int .i8 45), .lit (.int .i8 46), .lit (.int .i8 47), .lit (.int .i8 48), .lit (.int .i8 49), .lit (.int .i8 50), .lit (.int .i8 51), .lit (.int .i8 (-1)), .lit (.int .i8 (-1)), .lit (.int .i8 (-1)), .lit (.int .i8 (-1)), .lit (.int .i8 (-1))]
/-- One of Go's own tables, pinned by name: the form's constant. -/
def laid_unicode_utf8_first : DataW Unit := Go.Pinned.utf8First
def laid_roster_rosterref01_rows {H : Type} : DataW H := .agg [.agg [.lit (.int .i64 1), .lit (.int .i64 0), .lit (.int .i64 127), .lit (.int .i64 0), .lit (.int .i64 0), .lit (.int .i64 0), .lit (.int .i64 0), .lit (.int .i64 0), .lit (.int .i64 0)], .agg [.lit (.int .i64 2), .lit (.int .i64 194), .lit (.int .i64 223), .lit (.int .i64 128), .lit (.int .i64 191), .lit (.int .i64 0), .lit (.int .i64 0), .lit (.int .i64 0), .lit (.int .i64 0)], .agg [.lit (.int .i64 3), .lit (.int .i64 224), .lit (.int .i64 224), .lit (.int .i64 160), .lit (.int .i64 191), .lit (.int .i64 128), .lit (.int .i64 191), .lit (.int .i64 0), .lit (.int .i64 0)], .agg [.lit (.int .i64 3), .lit (.int .i64 225), .lit (.int .i64 236), .lit (.int .i64 128), .lit (.int .i64 191), .lit (.int .i64 128), .lit (.int .i64 191), .lit (.int .i64 0), .lit (.int .i64 0)], .agg [.lit (.int .i64 3), .lit (.int .i64 237), .lit (.int .i64 237), .lit (.int .i64 128), .lit (.int .i64 159), .lit (.int .i64 128), .lit (.int .i64 191), .lit (.int .i64 0), .lit (.int .i64 0)], .agg [.lit (.int .i64 3), .lit (.int .i64 238), .lit (.int .i64 239), .lit (.int .i64 128), .lit (.int .i64 191), .lit (.int .i64 128), .lit (.int .i64 191), .lit (.int .i64 0), .lit (.int .i64 0)], .agg [.lit (.int .i64 4), .lit (.int .i64 240), .lit (.int .i64 240), .lit (.int .i64 144), .lit (.int .i64 191), .lit (.int .i64 128), .lit (.int .i64 191), .lit (.int .i64 128), .lit (.int .i64 191)], .agg [.lit (.int .i64 4), .lit (.int .i64 241), .lit (.int .i64 243), .lit (.int .i64 128), .lit (.int .i64 191), .lit (.int .i64 128), .lit (.int .i64 191), .lit (.int .i64 128), .lit (.int .i64 191)], .agg [.lit (.int .i64 4), .lit (.int .i64 244), .lit (.int .i64 244), .lit (.int .i64 128), .lit (.int .i64 143), .lit (.int .i64 128), .lit (.int .i64 191), .lit (.int .i64 128), .lit (.int .i64 191)]]
def laid_roster_text_hexDigits {H : Type} : DataW H := .agg [.lit (.int .u8 48), .lit (.int .u8 49), .lit (.int .u8 50), .lit (.int .u8 51), .lit (.int .u8 52), .lit (.int .u8 53), .lit (.int .u8 54), .lit (.int .u8 55), .lit (.int .u8 56), .lit (.int .u8 57), .lit (.int .u8 97), .lit (.int .u8 98), .lit (.int .u8 99), .lit (.int .u8 100), .lit (.int .u8 101), .lit (.int .u8 102)]

/-- 'rosterlaw01.TextBases': WHATEVER THE INPUT: true; the input reads as it did. -/
def textBasesSpec : ChangeSpec := { name := "textBases", fn := fun _ => fun
  | [d] => { results := [.lit (.bool true)], args := [d] }
  | _ => none }
def textBasesRow : OpenClaim := { program := "ytilglidhlcmfbaadoor", sum := "3ab855ebc4c17025a98d8363de77eb22062193769e2c4d4d3a75744536dbef34", func := "roster/rosterlaw01.TextBases", spec := "textBases", inPlace := ["internal/bytealg.IndexByteString", "internal/bytealg.IndexString"], named := ["roster/text.base64Alphabet", "roster/text.base64Worths", "unicode/utf8.first", "unicode/utf8.acceptRanges", "internal/bytealg.MaxLen"], apart := false, laid := [("unicode/utf8.acceptRanges", laid_unicode_utf8_acceptRanges), ("roster/text.base64Alphabet", laid_roster_text_base64Alphabet), ("roster/text.base64Worths", laid_roster_text_base64Worths), ("unicode/utf8.first", laid_unicode_utf8_first)] }
def TextBasesSaid : Prop := textBasesRow.holds Tryd.pinned (OpenSpec.ofChange textBasesSpec)

/-- ITS FALSE NEIGHBOUR: 'it returns false'. Refute it at one input. -/
def textBasesWrong : ChangeSpec := { name := "textBases", fn := fun _ => fun
  | [d] => { results := [.lit (.bool false)], args := [d] }
  | _ => none }
def TextBasesWrongFalsely : Prop := textBasesRow.holds Tryd.pinned (OpenSpec.ofChange textBasesWrong)

/-- 'rosterlaw01.TextAll': WHATEVER THE INPUT: true; the input reads as it did. -/
def textAllSpec : ChangeSpec := { name := "textAll", fn := fun _ => fun
  | [d] => { results := [.lit (.bool true)], args := [d] }
  | _ => none }
def textAllRow : OpenClaim := { program := "ytilglidhlcmfbaadoor", sum := "3ab855ebc4c17025a98d8363de77eb22062193769e2c4d4d3a75744536dbef34", func := "roster/rosterlaw01.TextAll", spec := "textAll", inPlace := ["internal/bytealg.IndexByteString", "internal/bytealg.IndexString"], named := ["roster/rosterref01.rows", "roster/text.hexDigits", "roster/text.base64Alphabet", "roster/text.base64Worths", "unicode/utf8.first", "unicode/utf8.acceptRanges", "internal/bytealg.MaxLen"], apart := false, laid := [("roster/rosterref01.rows", laid_roster_rosterref01_rows), ("unicode/utf8.acceptRanges", laid_unicode_utf8_acceptRanges), ("roster/text.base64Alphabet", laid_roster_text_base64Alphabet), ("roster/text.base64Worths", laid_roster_text_base64Worths), ("roster/text.hexDigits", laid_roster_text_hexDigits), ("unicode/utf8.first", laid_unicode_utf8_first)] }
def TextAllSaid : Prop := textAllRow.holds Tryd.pinned (OpenSpec.ofChange textAllSpec)

/-- ITS FALSE NEIGHBOUR: 'it returns false'. Refute it at one input. -/
def textAllWrong : ChangeSpec := { name := "textAll", fn := fun _ => fun
  | [d] => { results := [.lit (.bool false)], args := [d] }
  | _ => none }
def TextAllWrongFalsely : Prop := textAllRow.holds Tryd.pinned (OpenSpec.ofChange textAllWrong)

/- THE SECOND FORM. 'bulk': how many values and letters a reading holds, each counted each time it is reached (what is shared counts as often as it is met; a slice's spare places count too). A statement '..UptoSaid' is the law's where the arguments, and the package variables that the reading takes, are together of bulk at most 1048576: NARROWER than '..Said'. Prove '..Said' where nothing that the law and all that it calls make is longer than what came in: it says more and counts as full. Else prove '..UptoSaid'. A law counts once. -/
mutual
def uptoBulk {H : Type} : DataW H → Nat
  | .lit (.string bytes) => bytes.length + 1
  | .lit _ => 1
  | .nil => 1
  | .ptr d => uptoBulk d + 1
  | .slice elems spare => uptoBulkAll elems + uptoBulkAll spare + 1
  | .agg parts => uptoBulkAll parts + 1
  | .iface _ d => uptoBulk d + 1
  | .map entries => uptoBulkEntries entries + 1
  | .held _ => 1
def uptoBulkAll {H : Type} : List (DataW H) → Nat
  | [] => 0
  | d :: r => uptoBulk d + uptoBulkAll r
def uptoBulkEntries {H : Type} : List (Lit × DataW H) → Nat
  | [] => 0
  | x :: r => uptoBulkEntry x + uptoBulkEntries r
def uptoBulkEntry {H : Type} : Lit × DataW H → Nat
  | (.string bytes, d) => bytes.length + uptoBulk d + 1
  | (_, d) => uptoBulk d + 1
 end
def uptoSmall : (H : Type) → List (DataW H) → Bool := fun _ ds => decide (uptoBulkAll ds ≤ 1048576)
def OpenSpec.upto (s : _root_.Go.ChangeSpec) : _root_.Go.OpenSpec := { _root_.Go.OpenSpec.ofChange s with cond := some uptoSmall }

/-- 'rosterlaw01.TextBases', WHERE WHAT IT READS IS OF BULK AT MOST 1048576: true; the input reads as it did. -/
def textBasesUptoRow : OpenClaim := { program := "ytilglidhlcmfbaadoor", sum := "3ab855ebc4c17025a98d8363de77eb22062193769e2c4d4d3a75744536dbef34", func := "roster/rosterlaw01.TextBases", spec := "textBases", inPlace := ["internal/bytealg.IndexByteString", "internal/bytealg.IndexString"], named := ["roster/text.base64Alphabet", "roster/text.base64Worths", "unicode/utf8.first", "unicode/utf8.acceptRanges", "internal/bytealg.MaxLen"], apart := false, laid := [("unicode/utf8.acceptRanges", laid_unicode_utf8_acceptRanges), ("roster/text.base64Alphabet", laid_roster_text_base64Alphabet), ("roster/text.base64Worths", laid_roster_text_base64Worths), ("unicode/utf8.first", laid_unicode_utf8_first)], narrowed := true }
def TextBasesUptoSaid : Prop := textBasesUptoRow.holds Tryd.pinned (OpenSpec.upto textBasesSpec)

/-- 'rosterlaw01.TextAll', WHERE WHAT IT READS IS OF BULK AT MOST 1048576: true; the input reads as it did. -/
def textAllUptoRow : OpenClaim := { program := "ytilglidhlcmfbaadoor", sum := "3ab855ebc4c17025a98d8363de77eb22062193769e2c4d4d3a75744536dbef34", func := "roster/rosterlaw01.TextAll", spec := "textAll", inPlace := ["internal/bytealg.IndexByteString", "internal/bytealg.IndexString"], named := ["roster/rosterref01.rows", "roster/text.hexDigits", "roster/text.base64Alphabet", "roster/text.base64Worths", "unicode/utf8.first", "unicode/utf8.acceptRanges", "internal/bytealg.MaxLen"], apart := false, laid := [("roster/rosterref01.rows", laid_roster_rosterref01_rows), ("unicode/utf8.acceptRanges", laid_unicode_utf8_acceptRanges), ("roster/text.base64Alphabet", laid_roster_text_base64Alphabet), ("roster/text.base64Worths", laid_roster_text_base64Worths), ("roster/text.hexDigits", laid_roster_text_hexDigits), ("unicode/utf8.first", laid_unicode_utf8_first)], narrowed := true }
def TextAllUptoSaid : Prop := textAllUptoRow.holds Tryd.pinned (OpenSpec.upto textAllSpec)

end Rows
end Go.Proofs.YtilglidhlcmfbaaDoor
