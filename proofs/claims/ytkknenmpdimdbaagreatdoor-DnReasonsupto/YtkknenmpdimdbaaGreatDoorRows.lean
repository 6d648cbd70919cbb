/-
  NARROWER THAN 'FOR EVERY INPUT', by the rows' own cells (each row's printed sentence says how): DnSpelt: laid · DnParse: laid · DnKeyOf: laid · DnReasons: laid.
  DERIVED. THE GIVEN ROWS OF THIS SEAT. 4 by the template 'for every input the law returns true; each argument reads behind the call as it read before'; 0 by the template 'total and deterministic' (their statements: YtkknenmpdimdbaaGreatDoorTotals.lean).
  GIVEN WITH THE SEED: the statements are not yours to turn. If you find one false, say at which input.
  Laid BY PROGRAM, IN A SANDBOX (cutbox-rows.mjs): the forced cells as the released guide's own fill.sh prints them over the translation 8f7adfebaa971aba… (all of the seat's roots in one cut). By AI agents, Wed Nov 11 2026. No macro, syntax, notation, axiom, sorry.
-/
import Derived.Test.YtkknenmpdimdbaaGreatDoorChecked
import GoSem.Claim
import GoSem.ClaimJoined
import GoSem.ClaimMapViews
import Derived.JoinedTies
import Derived.KernelRfl
namespace Go.Proofs.YtkknenmpdimdbaaGreatDoor
/- THE CELL 'sum', in the pinned program and in every row, IS THE sha256 OF THE DUMP (.gsa) THAT YtkknenmpdimdbaaGreatDoorProg.lean LOADS. Nothing in Lean hashes anything: it is a label: what it is worth is what the hold of that sum in a sandbox is worth. -/
noncomputable def Tryz.pinned : Pinned := { name := "ytkknenmpdimdbaagreatdoor", sum := "8f7adfebaa971aba6b8792e5582716664254e24695fd315dd36e066379f5d9b8", checked := Tryz.checked }
namespace Rows
def none {H : Type} : Left H := { results := [], args := [] }

/- WHAT THE LISTED PACKAGE-LEVEL VARIABLES READ AS WHEN THE CALL BEGINS. Each datum BY PROGRAM (the guide's laid-datum.mjs) off the statement by which the dump's own 'gosem.cut.vars' lays the variable. In a bare row this is a premise. The card (YtkknenmpdimdbaaGreatDoorCards.lean) ties it to the program's text. -/
def laid_roster_dn_ErrLong {H : Type} : DataW H := .iface "*errors.errorString" (.ptr (.agg [.lit (.string [110, 97, 109, 101, 32, 116, 111, 111, 32, 108, 111, 110, 103])]))
def laid_roster_dn_ErrUTF8 {H : Type} : DataW H := .iface "*errors.errorString" (.ptr (.agg [.lit (.string [110, 111, 32, 85, 84, 70, 45, 56])]))
def laid_roster_dn_ErrType {H : Type} : DataW H := .iface "*errors.errorString" (.ptr (.agg [.lit (.string [110, 111, 32, 97, 116, 116, 114, 105, 98, 117, 116, 101, 32, 116, 121, 112, 101])]))
def laid_roster_dn_ErrEquals {H : Type} : DataW H := .iface "*errors.errorString" (.ptr (.agg [.lit (.string [110, 111, 32, 101, 113, 117, 97, 108, 115, 32, 115, 105, 103, 110])]))
def laid_roster_dn_ErrEscape {H : Type} : DataW H := .iface "*errors.errorString" (.ptr (.agg [.lit (.string [110, 111, 116, 104, 105, 110, 103, 32, 114, 105, 103, 104, 116, 32, 98, 101, 104, 105, 110, 100, 32, 97, 32, 98, 97, 99, 107, 115, 108, 97, 115, 104])]))
def laid_roster_dn_ErrChar {H : Type} : DataW H := .iface "*errors.errorString" (.ptr (.agg [.lit (.string [97, 32, 98, 121, 116, 101, 32, 116, 104, 97, 116, 32, 109, 117, 115, 116, 32, 98, 101, 32, 101, 115, 99, 97, 112, 101, 100])]))
def laid_roster_dn_ErrHex {H : Type} : DataW H := .iface "*errors.errorString" (.ptr (.agg [.lit (.string [110, 111, 32, 104, 101, 120, 32, 118, 97, 108, 117, 101])]))
def laid_roster_dn_ErrTwice {H : Type} : DataW H := .iface "*errors.errorString" (.ptr (.agg [.lit (.string [97, 32, 116, 121, 112, 101, 32, 116, 119, 105, 99, 101, 32, 105, 110, 32, 97, 32, 112, 97, 114, 116])]))
def laid_roster_dn_ErrWide {H : Type} : DataW H := .iface "*errors.errorString" (.ptr (.agg [.lit (.string [116, 111, 111, 32, 109, 97, 110, 121, 32, 112, 97, 114, 116, 115, 32, 111, 114, 32, 112, 97, 105, 114, 115])]))
def laid_roster_dn_ErrMade {H : Type} : DataW H := .iface "*errors.errorString" (.ptr (.agg [.lit (.string [97, 32, 110, 97, 109, 101, 32, 116, 104, 97, 116, 32, 110, 111, 32, 116, 101, 120, 116, 32, 109, 101, 97, 110, 115])]))
def laid_roster_rosterref01_rows {H : Type} : DataW H := .agg [.agg [.lit (.int .i64 1), .lit (.int .i64 0), .lit (.int .i64 127), .lit (.int .i64 0), .lit (.int .i64 0), .lit (.int .i64 0), .lit (.int .i64 0), .lit (.int .i64 0), .lit (.int .i64 0)], .agg [.lit (.int .i64 2), .lit (.int .i64 194), .lit (.int .i64 223), .lit (.int .i64 128), .lit (.int .i64 191), .lit (.int .i64 0), .lit (.int .i64 0), .lit (.int .i64 0), .lit (.int .i64 0)], .agg [.lit (.int .i64 3), .lit (.int .i64 224), .lit (.int .i64 224), .lit (.int .i64 160), .lit (.int .i64 191), .lit (.int .i64 128), .lit (.int .i64 191), .lit (.int .i64 0), .lit (.int .i64 0)], .agg [.lit (.int .i64 3), .lit (.int .i64 225), .lit (.int .i64 236), .lit (.int .i64 128), .lit (.int .i64 191), .lit (.int .i64 128), .lit (.int .i64 191), .lit (.int .i64 0), .lit (.int .i64 0)], .agg [.lit (.int .i64 3), .lit (.int .i64 237), .lit (.int .i64 237), .lit (.int .i64 128), .lit (.int .i64 159), .lit (.int .i64 128), .lit (.int .i64 191), .lit (.int .i64 0), .lit (.int .i64 0)], .agg [.lit (.int .i64 3), .lit (.int .i64 238), .lit (.int .i64 239), .lit (.int .i64 128), .lit (.int .i64 191), .lit (.int .i64 128), .lit (.int .i64 191), .lit (.int .i64 0), .lit (.int .i64 0)], .agg [.lit (.int .i64 4), .lit (.int .i64 240), .lit (.int .i64 240), .lit (.int .i64 144), .lit (.int .i64 191), .lit (.int .i64 128), .lit (.int .i64 191), .lit (.int .i64 128), .lit (.int .i64 191)], .agg [.lit (.int .i64 4), .lit (.int .i64 241), .lit (.int .i64 243), .lit (.int .i64 128), .lit (.int .i64 191), .lit (.int .i64 128), .lit (.int .i64 191), .lit (.int .i64 128), .lit (.int .i64 191)], .agg [.lit (.int .i64 4), .lit (.int .i64 244), .lit (.int .i64 244), .lit (.int .i64 128), .lit (.int .i64 143), .lit (.int .i64 128), .lit (.int .i64 191), .lit (.int .i64 128), .lit (.int .i64 191)]]
def laid_errors_errorType {H : Type} : DataW H := .iface "internal/reflectlite.rtype" (.agg [.ptr (.lit (.string [101, 114, 114, 111, 114]))])

/-- 'rosterlaw05.DnSpelt': WHATEVER THE INPUT: true; the input reads as it did. -/
def dnSpeltSpec : ChangeSpec := { name := "dnSpelt", fn := fun _ => fun
  | [d1, d2] => { results := [.lit (.bool true)], args := [d1, d2] }
  | _ => none }
def dnSpeltRow : OpenClaim := { program := "ytkknenmpdimdbaagreatdoor", sum := "8f7adfebaa971aba6b8792e5582716664254e24695fd315dd36e066379f5d9b8", func := "roster/rosterlaw05.DnSpelt", spec := "dnSpelt", inPlace := ["internal/bytealg.IndexByteString", "internal/bytealg.abigen_runtime_cmpstring", "internal/abi.NoEscape"], unfollowed := true, recurses := true, named := ["roster/dn.ErrLong", "roster/dn.ErrUTF8", "roster/dn.ErrWide", "roster/dn.ErrType", "roster/dn.ErrTwice", "roster/dn.ErrEquals", "roster/dn.ErrEscape", "roster/dn.ErrChar", "roster/dn.ErrHex", "roster/dn.ErrMade"], apart := false, laid := [("roster/dn.ErrLong", laid_roster_dn_ErrLong), ("roster/dn.ErrUTF8", laid_roster_dn_ErrUTF8), ("roster/dn.ErrType", laid_roster_dn_ErrType), ("roster/dn.ErrEquals", laid_roster_dn_ErrEquals), ("roster/dn.ErrEscape", laid_roster_dn_ErrEscape), ("roster/dn.ErrChar", laid_roster_dn_ErrChar), ("roster/dn.ErrHex", laid_roster_dn_ErrHex), ("roster/dn.ErrTwice", laid_roster_dn_ErrTwice), ("roster/dn.ErrWide", laid_roster_dn_ErrWide), ("roster/dn.ErrMade", laid_roster_dn_ErrMade)] }
def DnSpeltSaid : Prop := dnSpeltRow.holds Tryz.pinned (OpenSpec.ofChange dnSpeltSpec)

/-- ITS FALSE NEIGHBOUR: 'it returns false'. Refute it at one input. -/
def dnSpeltWrong : ChangeSpec := { name := "dnSpelt", fn := fun _ => fun
  | [d1, d2] => { results := [.lit (.bool false)], args := [d1, d2] }
  | _ => none }
def DnSpeltWrongFalsely : Prop := dnSpeltRow.holds Tryz.pinned (OpenSpec.ofChange dnSpeltWrong)

/-- 'rosterlaw05.DnParse': WHATEVER THE INPUT: true; the input reads as it did. -/
def dnParseSpec : ChangeSpec := { name := "dnParse", fn := fun _ => fun
  | [d] => { results := [.lit (.bool true)], args := [d] }
  | _ => none }
def dnParseRow : OpenClaim := { program := "ytkknenmpdimdbaagreatdoor", sum := "8f7adfebaa971aba6b8792e5582716664254e24695fd315dd36e066379f5d9b8", func := "roster/rosterlaw05.DnParse", spec := "dnParse", inPlace := ["internal/bytealg.IndexByteString", "internal/reflectlite.ValueOf", "(internal/reflectlite.Value).Type", "(internal/reflectlite.Value).IsNil", "internal/reflectlite.TypeOf", "(internal/reflectlite.Value).Elem", "(internal/reflectlite.Value).Set"], unfollowed := true, recurses := true, named := ["roster/dn.ErrLong", "roster/dn.ErrUTF8", "roster/dn.ErrWide", "roster/dn.ErrType", "roster/dn.ErrTwice", "roster/dn.ErrEquals", "roster/dn.ErrEscape", "roster/dn.ErrChar", "roster/dn.ErrHex", "roster/rosterref01.rows", "errors.errorType", "roster/dn.ErrMade"], apart := false, laid := [("roster/rosterref01.rows", laid_roster_rosterref01_rows), ("errors.errorType", laid_errors_errorType), ("roster/dn.ErrLong", laid_roster_dn_ErrLong), ("roster/dn.ErrUTF8", laid_roster_dn_ErrUTF8), ("roster/dn.ErrType", laid_roster_dn_ErrType), ("roster/dn.ErrEquals", laid_roster_dn_ErrEquals), ("roster/dn.ErrEscape", laid_roster_dn_ErrEscape), ("roster/dn.ErrChar", laid_roster_dn_ErrChar), ("roster/dn.ErrHex", laid_roster_dn_ErrHex), ("roster/dn.ErrTwice", laid_roster_dn_ErrTwice), ("roster/dn.ErrWide", laid_roster_dn_ErrWide), ("roster/dn.ErrMade", laid_roster_dn_ErrMade)] }
def DnParseSaid : Prop := dnParseRow.holds Tryz.pinned (OpenSpec.ofChange dnParseSpec)

/-- ITS FALSE NEIGHBOUR: 'it returns false'. Refute it at one input. -/
def dnParseWrong : ChangeSpec := { name := "dnParse", fn := fun _ => fun
  | [d] => { results := [.lit (.bool false)], args := [d] }
  | _ => none }
def DnParseWrongFalsely : Prop := dnParseRow.holds Tryz.pinned (OpenSpec.ofChange dnParseWrong)

/-- 'rosterlaw05.DnKeyOf': WHATEVER THE INPUT: true; the input reads as it did. -/
def dnKeyOfSpec : ChangeSpec := { name := "dnKeyOf", fn := fun _ => fun
  | [d] => { results := [.lit (.bool true)], args := [d] }
  | _ => none }
def dnKeyOfRow : OpenClaim := { program := "ytkknenmpdimdbaagreatdoor", sum := "8f7adfebaa971aba6b8792e5582716664254e24695fd315dd36e066379f5d9b8", func := "roster/rosterlaw05.DnKeyOf", spec := "dnKeyOf", inPlace := ["internal/bytealg.IndexByteString", "internal/bytealg.abigen_runtime_cmpstring", "internal/abi.NoEscape", "internal/reflectlite.ValueOf", "(internal/reflectlite.Value).Type", "(internal/reflectlite.Value).IsNil", "internal/reflectlite.TypeOf", "(internal/reflectlite.Value).Elem", "(internal/reflectlite.Value).Set"], unfollowed := true, recurses := true, named := ["roster/dn.ErrLong", "roster/dn.ErrUTF8", "roster/dn.ErrWide", "roster/dn.ErrType", "roster/dn.ErrTwice", "roster/dn.ErrEquals", "roster/dn.ErrEscape", "roster/dn.ErrChar", "roster/dn.ErrHex", "roster/dn.ErrMade", "roster/rosterref01.rows", "errors.errorType"], apart := false, laid := [("roster/rosterref01.rows", laid_roster_rosterref01_rows), ("errors.errorType", laid_errors_errorType), ("roster/dn.ErrLong", laid_roster_dn_ErrLong), ("roster/dn.ErrUTF8", laid_roster_dn_ErrUTF8), ("roster/dn.ErrType", laid_roster_dn_ErrType), ("roster/dn.ErrEquals", laid_roster_dn_ErrEquals), ("roster/dn.ErrEscape", laid_roster_dn_ErrEscape), ("roster/dn.ErrChar", laid_roster_dn_ErrChar), ("roster/dn.ErrHex", laid_roster_dn_ErrHex), ("roster/dn.ErrTwice", laid_roster_dn_ErrTwice), ("roster/dn.ErrWide", laid_roster_dn_ErrWide), ("roster/dn.ErrMade", laid_roster_dn_ErrMade)] }
def DnKeyOfSaid : Prop := dnKeyOfRow.holds Tryz.pinned (OpenSpec.ofChange dnKeyOfSpec)

/-- ITS FALSE NEIGHBOUR: 'it returns false'. Refute it at one input. -/
def dnKeyOfWrong : ChangeSpec := { name := "dnKeyOf", fn := fun _ => fun
  | [d] => { results := [.lit (.bool false)], args := [d] }
  | _ => none }
def DnKeyOfWrongFalsely : Prop := dnKeyOfRow.holds Tryz.pinned (OpenSpec.ofChange dnKeyOfWrong)

/-- 'rosterlaw05.DnReasons': WHATEVER THE INPUT: true; the input reads as it did. -/
def dnReasonsSpec : ChangeSpec := { name := "dnReasons", fn := fun _ => fun
  | [d1, d2] => { results := [.lit (.bool true)], args := [d1, d2] }
  | _ => none }
def dnReasonsRow : OpenClaim := { program := "ytkknenmpdimdbaagreatdoor", sum := "8f7adfebaa971aba6b8792e5582716664254e24695fd315dd36e066379f5d9b8", func := "roster/rosterlaw05.DnReasons", spec := "dnReasons", inPlace := ["internal/bytealg.IndexByteString", "internal/reflectlite.TypeOf", "internal/abi.NoEscape", "internal/bytealg.abigen_runtime_cmpstring", "internal/reflectlite.ValueOf", "(internal/reflectlite.Value).Type", "(internal/reflectlite.Value).IsNil", "(internal/reflectlite.Value).Elem", "(internal/reflectlite.Value).Set"], unfollowed := true, recurses := true, named := ["roster/dn.ErrLong", "roster/dn.ErrUTF8", "roster/dn.ErrWide", "roster/dn.ErrType", "roster/dn.ErrTwice", "roster/dn.ErrEquals", "roster/dn.ErrEscape", "roster/dn.ErrChar", "roster/dn.ErrHex", "roster/rosterref01.rows", "roster/dn.ErrMade", "errors.errorType"], apart := false, laid := [("roster/rosterref01.rows", laid_roster_rosterref01_rows), ("errors.errorType", laid_errors_errorType), ("roster/dn.ErrLong", laid_roster_dn_ErrLong), ("roster/dn.ErrUTF8", laid_roster_dn_ErrUTF8), ("roster/dn.ErrType", laid_roster_dn_ErrType), ("roster/dn.ErrEquals", laid_roster_dn_ErrEquals), ("roster/dn.ErrEscape", laid_roster_dn_ErrEscape), ("roster/dn.ErrChar", laid_roster_dn_ErrChar), ("roster/dn.ErrHex", laid_roster_dn_ErrHex), ("roster/dn.ErrTwice", laid_roster_dn_ErrTwice), ("roster/dn.ErrWide", laid_roster_dn_ErrWide), ("roster/dn.ErrMade", laid_roster_dn_ErrMade)] }
def DnReasonsSaid : Prop := dnReasonsRow.holds Tryz.pinned (OpenSpec.ofChange dnReasonsSpec)

/-- ITS FALSE NEIGHBOUR: 'it returns false'. Refute it at one input. -/
def dnReasonsWrong : ChangeSpec := { name := "dnReasons", fn := fun _ => fun
  | [d1, d2] => { results := [.lit (.bool false)], args := [d1, d2] }
  | _ => none }
def DnReasonsWrongFalsely : Prop := dnReasonsRow.holds Tryz.pinned (OpenSpec.ofChange dnReasonsWrong)

/- THE SECOND FORM. 'bulk': how many values and letters a reading holds, each counted each time it is reached (what is shared counts as often as it is met; a slice's spare places count too). A statement '..UptoSaid' is the law's where the arguments, and the package variables that the reading takes, are together of bulk at most 1048576: NARROWER than '..Said'. Prove '..Said' where nothing that the law and all that it calls make is longer than what came in: it says more and counts as full. Else prove '..UptoSaid'. A law counts once. -/
mutual
def uptoBulk {H : Type} : DataW H → Nat
  | .lit (.string bytes) => bytes.length + 1
  | .lit _ => 1
  | .nil => 1
  | .ptr d => uptoBulk d + 1
  | .slice elems spare => uptoBulkAll elems + uptoBulkAll spare + 1
  | .agg parts => uptoBulkAll parts + 1
  | .iface _ d => uptoBulk d + 1
  | .map entries => uptoBulkEntries entries + 1
  | .held _ => 1
def uptoBulkAll {H : Type} : List (DataW H) → Nat
  | [] => 0
  | d :: r => uptoBulk d + uptoBulkAll r
def uptoBulkEntries {H : Type} : List (Lit × DataW H) → Nat
  | [] => 0
  | x :: r => uptoBulkEntry x + uptoBulkEntries r
def uptoBulkEntry {H : Type} : Lit × DataW H → Nat
  | (.string bytes, d) => bytes.length + uptoBulk d + 1
  | (_, d) => uptoBulk d + 1
 end
def uptoSmall : (H : Type) → List (DataW H) → Bool := fun _ ds => decide (uptoBulkAll ds ≤ 1048576)
def OpenSpec.upto (s : _root_.Go.ChangeSpec) : _root_.Go.OpenSpec := { _root_.Go.OpenSpec.ofChange s with cond := some uptoSmall }

/-- 'rosterlaw05.DnSpelt', WHERE WHAT IT READS IS OF BULK AT MOST 1048576: true; the input reads as it did. -/
def dnSpeltUptoRow : OpenClaim := { program := "ytkknenmpdimdbaagreatdoor", sum := "8f7adfebaa971aba6b8792e5582716664254e24695fd315dd36e066379f5d9b8", func := "roster/rosterlaw05.DnSpelt", spec := "dnSpelt", inPlace := ["internal/bytealg.IndexByteString", "internal/bytealg.abigen_runtime_cmpstring", "internal/abi.NoEscape"], unfollowed := true, recurses := true, named := ["roster/dn.ErrLong", "roster/dn.ErrUTF8", "roster/dn.ErrWide", "roster/dn.ErrType", "roster/dn.ErrTwice", "roster/dn.ErrEquals", "roster/dn.ErrEscape", "roster/dn.ErrChar", "roster/dn.ErrHex", "roster/dn.ErrMade"], apart := false, laid := [("roster/dn.ErrLong", laid_roster_dn_ErrLong), ("roster/dn.ErrUTF8", laid_roster_dn_ErrUTF8), ("roster/dn.ErrType", laid_roster_dn_ErrType), ("roster/dn.ErrEquals", laid_roster_dn_ErrEquals), ("roster/dn.ErrEscape", laid_roster_dn_ErrEscape), ("roster/dn.ErrChar", laid_roster_dn_ErrChar), ("roster/dn.ErrHex", laid_roster_dn_ErrHex), ("roster/dn.ErrTwice", laid_roster_dn_ErrTwice), ("roster/dn.ErrWide", laid_roster_dn_ErrWide), ("roster/dn.ErrMade", laid_roster_dn_ErrMade)], narrowed := true }
def DnSpeltUptoSaid : Prop := dnSpeltUptoRow.holds Tryz.pinned (OpenSpec.upto dnSpeltSpec)

/-- 'rosterlaw05.DnParse', WHERE WHAT IT READS IS OF BULK AT MOST 1048576: true; the input reads as it did. -/
def dnParseUptoRow : OpenClaim := { program := "ytkknenmpdimdbaagreatdoor", sum := "8f7adfebaa971aba6b8792e5582716664254e24695fd315dd36e066379f5d9b8", func := "roster/rosterlaw05.DnParse", spec := "dnParse", inPlace := ["internal/bytealg.IndexByteString", "internal/reflectlite.ValueOf", "(internal/reflectlite.Value).Type", "(internal/reflectlite.Value).IsNil", "internal/reflectlite.TypeOf", "(internal/reflectlite.Value).Elem", "(internal/reflectlite.Value).Set"], unfollowed := true, recurses := true, named := ["roster/dn.ErrLong", "roster/dn.ErrUTF8", "roster/dn.ErrWide", "roster/dn.ErrType", "roster/dn.ErrTwice", "roster/dn.ErrEquals", "roster/dn.ErrEscape", "roster/dn.ErrChar", "roster/dn.ErrHex", "roster/rosterref01.rows", "errors.errorType", "roster/dn.ErrMade"], apart := false, laid := [("roster/rosterref01.rows", laid_roster_rosterref01_rows), ("errors.errorType", laid_errors_errorType), ("roster/dn.ErrLong", laid_roster_dn_ErrLong), ("roster/dn.ErrUTF8", laid_roster_dn_ErrUTF8), ("roster/dn.ErrType", laid_roster_dn_ErrType), ("roster/dn.ErrEquals", laid_roster_dn_ErrEquals), ("roster/dn.ErrEscape", laid_roster_dn_ErrEscape), ("roster/dn.ErrChar", laid_roster_dn_ErrChar), ("roster/dn.ErrHex", laid_roster_dn_ErrHex), ("roster/dn.ErrTwice", laid_roster_dn_ErrTwice), ("roster/dn.ErrWide", laid_roster_dn_ErrWide), ("roster/dn.ErrMade", laid_roster_dn_ErrMade)], narrowed := true }
def DnParseUptoSaid : Prop := dnParseUptoRow.holds Tryz.pinned (OpenSpec.upto dnParseSpec)

/-- 'rosterlaw05.DnKeyOf', WHERE WHAT IT READS IS OF BULK AT MOST 1048576: true; the input reads as it did. -/
def dnKeyOfUptoRow : OpenClaim := { program := "ytkknenmpdimdbaagreatdoor", sum := "8f7adfebaa971aba6b8792e5582716664254e24695fd315dd36e066379f5d9b8", func := "roster/rosterlaw05.DnKeyOf", spec := "dnKeyOf", inPlace := ["internal/bytealg.IndexByteString", "internal/bytealg.abigen_runtime_cmpstring", "internal/abi.NoEscape", "internal/reflectlite.ValueOf", "(internal/reflectlite.Value).Type", "(internal/reflectlite.Value).IsNil", "internal/reflectlite.TypeOf", "(internal/reflectlite.Value).Elem", "(internal/reflectlite.Value).Set"], unfollowed := true, recurses := true, named := ["roster/dn.ErrLong", "roster/dn.ErrUTF8", "roster/dn.ErrWide", "roster/dn.ErrType", "roster/dn.ErrTwice", "roster/dn.ErrEquals", "roster/dn.ErrEscape", "roster/dn.ErrChar", "roster/dn.ErrHex", "roster/dn.ErrMade", "roster/rosterref01.rows", "errors.errorType"], apart := false, laid := [("roster/rosterref01.rows", laid_roster_rosterref01_rows), ("errors.errorType", laid_errors_errorType), ("roster/dn.ErrLong", laid_roster_dn_ErrLong), ("roster/dn.ErrUTF8", laid_roster_dn_ErrUTF8), ("roster/dn.ErrType", laid_roster_dn_ErrType), ("roster/dn.ErrEquals", laid_roster_dn_ErrEquals), ("roster/dn.ErrEscape", laid_roster_dn_ErrEscape), ("roster/dn.ErrChar", laid_roster_dn_ErrChar), ("roster/dn.ErrHex", laid_roster_dn_ErrHex), ("roster/dn.ErrTwice", laid_roster_dn_ErrTwice), ("roster/dn.ErrWide", laid_roster_dn_ErrWide), ("roster/dn.ErrMade", laid_roster_dn_ErrMade)], narrowed := true }
def DnKeyOfUptoSaid : Prop := dnKeyOfUptoRow.holds Tryz.pinned (OpenSpec.upto dnKeyOfSpec)

/-- 'rosterlaw05.DnReasons', WHERE WHAT IT READS IS OF BULK AT MOST 1048576: true; the input reads as it did. -/
def dnReasonsUptoRow : OpenClaim := { program := "ytkknenmpdimdbaagreatdoor", sum := "8f7adfebaa971aba6b8792e5582716664254e24695fd315dd36e066379f5d9b8", func := "roster/rosterlaw05.DnReasons", spec := "dnReasons", inPlace := ["internal/bytealg.IndexByteString", "internal/reflectlite.TypeOf", "internal/abi.NoEscape", "internal/bytealg.abigen_runtime_cmpstring", "internal/reflectlite.ValueOf", "(internal/reflectlite.Value).Type", "(internal/reflectlite.Value).IsNil", "(internal/reflectlite.Value).Elem", "(internal/reflectlite.Value).Set"], unfollowed := true, recurses := true, named := ["roster/dn.ErrLong", "roster/dn.ErrUTF8", "roster/dn.ErrWide", "roster/dn.ErrType", "roster/dn.ErrTwice", "roster/dn.ErrEquals", "roster/dn.ErrEscape", "roster/dn.ErrChar", "roster/dn.ErrHex", "roster/rosterref01.rows", "roster/dn.ErrMade", "errors.errorType"], apart := false, laid := [("roster/rosterref01.rows", laid_roster_rosterref01_rows), ("errors.errorType", laid_errors_errorType), ("roster/dn.ErrLong", laid_roster_dn_ErrLong), ("roster/dn.ErrUTF8", laid_roster_dn_ErrUTF8), ("roster/dn.ErrType", laid_roster_dn_ErrType), ("roster/dn.ErrEquals", laid_roster_dn_ErrEquals), ("roster/dn.ErrEscape", laid_roster_dn_ErrEscape), ("roster/dn.ErrChar", laid_roster_dn_ErrChar), ("roster/dn.ErrHex", laid_roster_dn_ErrHex), ("roster/dn.ErrTwice", laid_roster_dn_ErrTwice), ("roster/dn.ErrWide", laid_roster_dn_ErrWide), ("roster/dn.ErrMade", laid_roster_dn_ErrMade)], narrowed := true }
def DnReasonsUptoSaid : Prop := dnReasonsUptoRow.holds Tryz.pinned (OpenSpec.upto dnReasonsSpec)

end Rows
end Go.Proofs.YtkknenmpdimdbaaGreatDoor
