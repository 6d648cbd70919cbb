/-
  NARROWER THAN 'FOR EVERY INPUT', by the rows' own cells (each row's printed sentence says how): DnSame: laid · DnFamily: laid.
  DERIVED. THE GIVEN ROWS OF THIS SEAT. 2 by the template 'for every input the law returns true; each argument reads behind the call as it read before'; 0 by the template 'total and deterministic' (their statements: YtkanoloddpigdaaDoorTotals.lean).
  GIVEN WITH THE SEED: the statements are not yours to turn. If you find one false, say at which input.
  Laid BY PROGRAM, IN A SANDBOX (cutbox-rows.mjs): the forced cells as the released guide's own fill.sh prints them over the translation b1641ad76dab98fe… (all of the seat's roots in one cut). By AI agents, Wed Nov 11 2026. No macro, syntax, notation, axiom, sorry.
-/
import Derived.Test.YtkanoloddpigdaaDoorChecked
import GoSem.Claim
import GoSem.ClaimJoined
import GoSem.ClaimMapViews
import Derived.JoinedTies
import Derived.KernelRfl
namespace Go.Proofs.YtkanoloddpigdaaDoor
/- THE CELL 'sum', in the pinned program and in every row, IS THE sha256 OF THE DUMP (.gsa) THAT YtkanoloddpigdaaDoorProg.lean LOADS. Nothing in Lean hashes anything: it is a label: what it is worth is what the hold of that sum in a sandbox is worth. -/
noncomputable def Tryd.pinned : Pinned := { name := "ytkanoloddpigdaadoor", sum := "b1641ad76dab98fe1aaf473296063c1909ff5ddb5751203b7187bf4b446436b5", checked := Tryd.checked }
namespace Rows
def none {H : Type} : Left H := { results := [], args := [] }

/- WHAT THE LISTED PACKAGE-LEVEL VARIABLES READ AS WHEN THE CALL BEGINS. Each datum BY PROGRAM (the guide's laid-datum.mjs) off the statement by which the dump's own 'gosem.cut.vars' lays the variable. In a bare row this is a premise. The card (YtkanoloddpigdaaDoorCards.lean) ties it to the program's text. -/
def laid_roster_dn_ErrUTF8 {H : Type} : DataW H := .iface "*errors.errorString" (.ptr (.agg [.lit (.string [110, 111, 32, 85, 84, 70, 45, 56])]))
def laid_roster_dn_ErrTwice {H : Type} : DataW H := .iface "*errors.errorString" (.ptr (.agg [.lit (.string [97, 32, 116, 121, 112, 101, 32, 116, 119, 105, 99, 101, 32, 105, 110, 32, 97, 32, 112, 97, 114, 116])]))
def laid_roster_dn_ErrWide {H : Type} : DataW H := .iface "*errors.errorString" (.ptr (.agg [.lit (.string [116, 111, 111, 32, 109, 97, 110, 121, 32, 112, 97, 114, 116, 115, 32, 111, 114, 32, 112, 97, 105, 114, 115])]))
def laid_roster_dn_ErrMade {H : Type} : DataW H := .iface "*errors.errorString" (.ptr (.agg [.lit (.string [97, 32, 110, 97, 109, 101, 32, 116, 104, 97, 116, 32, 110, 111, 32, 116, 101, 120, 116, 32, 109, 101, 97, 110, 115])]))

/-- 'rosterlaw05.DnSame': WHATEVER THE INPUT: true; the input reads as it did. -/
def dnSameSpec : ChangeSpec := { name := "dnSame", fn := fun _ => fun
  | [d1, d2] => { results := [.lit (.bool true)], args := [d1, d2] }
  | _ => none }
def dnSameRow : OpenClaim := { program := "ytkanoloddpigdaadoor", sum := "b1641ad76dab98fe1aaf473296063c1909ff5ddb5751203b7187bf4b446436b5", func := "roster/rosterlaw05.DnSame", spec := "dnSame", inPlace := ["internal/bytealg.abigen_runtime_cmpstring", "internal/abi.NoEscape"], unfollowed := true, recurses := true, named := ["roster/dn.ErrWide", "roster/dn.ErrMade", "roster/dn.ErrTwice", "roster/dn.ErrUTF8"], apart := false, laid := [("roster/dn.ErrUTF8", laid_roster_dn_ErrUTF8), ("roster/dn.ErrTwice", laid_roster_dn_ErrTwice), ("roster/dn.ErrWide", laid_roster_dn_ErrWide), ("roster/dn.ErrMade", laid_roster_dn_ErrMade)] }
def DnSameSaid : Prop := dnSameRow.holds Tryd.pinned (OpenSpec.ofChange dnSameSpec)

/-- ITS FALSE NEIGHBOUR: 'it returns false'. Refute it at one input. -/
def dnSameWrong : ChangeSpec := { name := "dnSame", fn := fun _ => fun
  | [d1, d2] => { results := [.lit (.bool false)], args := [d1, d2] }
  | _ => none }
def DnSameWrongFalsely : Prop := dnSameRow.holds Tryd.pinned (OpenSpec.ofChange dnSameWrong)

/-- 'rosterlaw05.DnFamily': WHATEVER THE INPUT: true; the input reads as it did. -/
def dnFamilySpec : ChangeSpec := { name := "dnFamily", fn := fun _ => fun
  | [d] => { results := [.lit (.bool true)], args := [d] }
  | _ => none }
def dnFamilyRow : OpenClaim := { program := "ytkanoloddpigdaadoor", sum := "b1641ad76dab98fe1aaf473296063c1909ff5ddb5751203b7187bf4b446436b5", func := "roster/rosterlaw05.DnFamily", spec := "dnFamily", inPlace := ["internal/bytealg.abigen_runtime_cmpstring", "internal/abi.NoEscape"], unfollowed := true, recurses := true, named := ["roster/dn.ErrWide", "roster/dn.ErrMade", "roster/dn.ErrTwice", "roster/dn.ErrUTF8"], apart := false, laid := [("roster/dn.ErrUTF8", laid_roster_dn_ErrUTF8), ("roster/dn.ErrTwice", laid_roster_dn_ErrTwice), ("roster/dn.ErrWide", laid_roster_dn_ErrWide), ("roster/dn.ErrMade", laid_roster_dn_ErrMade)] }
def DnFamilySaid : Prop := dnFamilyRow.holds Tryd.pinned (OpenSpec.ofChange dnFamilySpec)

/-- ITS FALSE NEIGHBOUR: 'it returns false'. Refute it at one input. -/
def dnFamilyWrong : ChangeSpec := { name := "dnFamily", fn := fun _ => fun
  | [d] => { results := [.lit (.bool false)], args := [d] }
  | _ => none }
def DnFamilyWrongFalsely : Prop := dnFamilyRow.holds Tryd.pinned (OpenSpec.ofChange dnFamilyWrong)

/- THE SECOND FORM. 'bulk': how many values and letters a reading holds, each counted each time it is reached (what is shared counts as often as it is met; a slice's spare places count too). A statement '..UptoSaid' is the law's where the arguments, and the package variables that the reading takes, are together of bulk at most 1048576: NARROWER than '..Said'. Prove '..Said' where nothing that the law and all that it calls make is longer than what came in: it says more and counts as full. Else prove '..UptoSaid'. A law counts once. -/
mutual
def uptoBulk {H : Type} : DataW H → Nat
  | .lit (.string bytes) => bytes.length + 1
  | .lit _ => 1
  | .nil => 1
  | .ptr d => uptoBulk d + 1
  | .slice elems spare => uptoBulkAll elems + uptoBulkAll spare + 1
  | .agg parts => uptoBulkAll parts + 1
  | .iface _ d => uptoBulk d + 1
  | .map entries => uptoBulkEntries entries + 1
  | .held _ => 1
def uptoBulkAll {H : Type} : List (DataW H) → Nat
  | [] => 0
  | d :: r => uptoBulk d + uptoBulkAll r
def uptoBulkEntries {H : Type} : List (Lit × DataW H) → Nat
  | [] => 0
  | x :: r => uptoBulkEntry x + uptoBulkEntries r
def uptoBulkEntry {H : Type} : Lit × DataW H → Nat
  | (.string bytes, d) => bytes.length + uptoBulk d + 1
  | (_, d) => uptoBulk d + 1
 end
def uptoSmall : (H : Type) → List (DataW H) → Bool := fun _ ds => decide (uptoBulkAll ds ≤ 1048576)
def OpenSpec.upto (s : _root_.Go.ChangeSpec) : _root_.Go.OpenSpec := { _root_.Go.OpenSpec.ofChange s with cond := some uptoSmall }

/-- 'rosterlaw05.DnSame', WHERE WHAT IT READS IS OF BULK AT MOST 1048576: true; the input reads as it did. -/
def dnSameUptoRow : OpenClaim := { program := "ytkanoloddpigdaadoor", sum := "b1641ad76dab98fe1aaf473296063c1909ff5ddb5751203b7187bf4b446436b5", func := "roster/rosterlaw05.DnSame", spec := "dnSame", inPlace := ["internal/bytealg.abigen_runtime_cmpstring", "internal/abi.NoEscape"], unfollowed := true, recurses := true, named := ["roster/dn.ErrWide", "roster/dn.ErrMade", "roster/dn.ErrTwice", "roster/dn.ErrUTF8"], apart := false, laid := [("roster/dn.ErrUTF8", laid_roster_dn_ErrUTF8), ("roster/dn.ErrTwice", laid_roster_dn_ErrTwice), ("roster/dn.ErrWide", laid_roster_dn_ErrWide), ("roster/dn.ErrMade", laid_roster_dn_ErrMade)], narrowed := true }
def DnSameUptoSaid : Prop := dnSameUptoRow.holds Tryd.pinned (OpenSpec.upto dnSameSpec)

/-- 'rosterlaw05.DnFamily', WHERE WHAT IT READS IS OF BULK AT MOST 1048576: true; the input reads as it did. -/
def dnFamilyUptoRow : OpenClaim := { program := "ytkanoloddpigdaadoor", sum := "b1641ad76dab98fe1aaf473296063c1909ff5ddb5751203b7187bf4b446436b5", func := "roster/rosterlaw05.DnFamily", spec := "dnFamily", inPlace := ["internal/bytealg.abigen_runtime_cmpstring", "internal/abi.NoEscape"], unfollowed := true, recurses := true, named := ["roster/dn.ErrWide", "roster/dn.ErrMade", "roster/dn.ErrTwice", "roster/dn.ErrUTF8"], apart := false, laid := [("roster/dn.ErrUTF8", laid_roster_dn_ErrUTF8), ("roster/dn.ErrTwice", laid_roster_dn_ErrTwice), ("roster/dn.ErrWide", laid_roster_dn_ErrWide), ("roster/dn.ErrMade", laid_roster_dn_ErrMade)], narrowed := true }
def DnFamilyUptoSaid : Prop := dnFamilyUptoRow.holds Tryd.pinned (OpenSpec.upto dnFamilySpec)

end Rows
end Go.Proofs.YtkanoloddpigdaaDoor
