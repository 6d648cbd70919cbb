/-
  No cell of these rows narrows 'for every input' (looked for: loops, veiled, ifaces, maps, wideKeys, modest, calm, conditions, laid).
  DERIVED. THE GIVEN ROWS OF THIS SEAT. 2 by the template 'for every input the law returns true; each argument reads behind the call as it read before'; 0 by the template 'total and deterministic' (their statements: YtjklnmddoiilgaaTotals.lean).
  GIVEN WITH THE SEED: the statements are not yours to turn. If you find one false, say at which input.
  Laid BY PROGRAM, IN A SANDBOX (cutbox-rows.mjs): the forced cells as the released guide's own fill.sh prints them over the translation 03f97f43ea0afa40… (all of the seat's roots in one cut). By AI agents, Wed Nov 11 2026. No macro, syntax, notation, axiom, sorry.
-/
import Derived.Test.YtjklnmddoiilgaaChecked
import GoSem.Claim
import GoSem.ClaimJoined
import GoSem.ClaimMapViews
import Derived.JoinedTies
import Derived.KernelRfl
namespace Go.Proofs.Ytjklnmddoiilgaa
/- THE CELL 'sum', in the pinned program and in every row, IS THE sha256 OF THE DUMP (.gsa) THAT YtjklnmddoiilgaaProg.lean LOADS. Nothing in Lean hashes anything: it is a label: what it is worth is what the hold of that sum in a sandbox is worth. -/
noncomputable def Try.pinned : Pinned := { name := "ytjklnmddoiilgaa", sum := "03f97f43ea0afa4036c85dafdcd516dcf42d2e0595698e7c9a194276e6f92d55", checked := Try.checked }
namespace Rows
def none {H : Type} : Left H := { results := [], args := [] }

/-- 'rosterlaw18.UrlQuiet': WHATEVER THE INPUT: true; the input reads as it did. -/
def urlQuietSpec : ChangeSpec := { name := "urlQuiet", fn := fun _ => fun
  | [d] => { results := [.lit (.bool true)], args := [d] }
  | _ => none }
def urlQuietRow : OpenClaim := { program := "ytjklnmddoiilgaa", sum := "03f97f43ea0afa4036c85dafdcd516dcf42d2e0595698e7c9a194276e6f92d55", func := "roster/rosterlaw18.UrlQuiet", spec := "urlQuiet", inPlace := ["internal/bytealg.IndexByteString", "internal/abi.NoEscape"], apart := false }
def UrlQuietSaid : Prop := urlQuietRow.holds Try.pinned (OpenSpec.ofChange urlQuietSpec)

/-- ITS FALSE NEIGHBOUR: 'it returns false'. Refute it at one input. -/
def urlQuietWrong : ChangeSpec := { name := "urlQuiet", fn := fun _ => fun
  | [d] => { results := [.lit (.bool false)], args := [d] }
  | _ => none }
def UrlQuietWrongFalsely : Prop := urlQuietRow.holds Try.pinned (OpenSpec.ofChange urlQuietWrong)

/-- 'rosterlaw18.UrlEscape': WHATEVER THE INPUT: true; the input reads as it did. -/
def urlEscapeSpec : ChangeSpec := { name := "urlEscape", fn := fun _ => fun
  | [d1, d2] => { results := [.lit (.bool true)], args := [d1, d2] }
  | _ => none }
def urlEscapeRow : OpenClaim := { program := "ytjklnmddoiilgaa", sum := "03f97f43ea0afa4036c85dafdcd516dcf42d2e0595698e7c9a194276e6f92d55", func := "roster/rosterlaw18.UrlEscape", spec := "urlEscape", inPlace := ["internal/bytealg.IndexByteString", "internal/abi.NoEscape"], apart := false }
def UrlEscapeSaid : Prop := urlEscapeRow.holds Try.pinned (OpenSpec.ofChange urlEscapeSpec)

/-- ITS FALSE NEIGHBOUR: 'it returns false'. Refute it at one input. -/
def urlEscapeWrong : ChangeSpec := { name := "urlEscape", fn := fun _ => fun
  | [d1, d2] => { results := [.lit (.bool false)], args := [d1, d2] }
  | _ => none }
def UrlEscapeWrongFalsely : Prop := urlEscapeRow.holds Try.pinned (OpenSpec.ofChange urlEscapeWrong)

/- THE SECOND FORM. 'bulk': how many values and letters a reading holds, each counted each time it is reached (what is shared counts as often as it is met; a slice's spare places count too). A statement '..UptoSaid' is the law's where the arguments, and the package variables that the reading takes, are together of bulk at most 1048576: NARROWER than '..Said'. Prove '..Said' where nothing that the law and all that it calls make is longer than what came in: it says more and counts as full. Else prove '..UptoSaid'. A law counts once. -/
mutual
def uptoBulk {H : Type} : DataW H → Nat
  | .lit (.string bytes) => bytes.length + 1
  | .lit _ => 1
  | .nil => 1
  | .ptr d => uptoBulk d + 1
  | .slice elems spare => uptoBulkAll elems + uptoBulkAll spare + 1
  | .agg parts => uptoBulkAll parts + 1
  | .iface _ d => uptoBulk d + 1
  | .map entries => uptoBulkEntries entries + 1
  | .held _ => 1
def uptoBulkAll {H : Type} : List (DataW H) → Nat
  | [] => 0
  | d :: r => uptoBulk d + uptoBulkAll r
def uptoBulkEntries {H : Type} : List (Lit × DataW H) → Nat
  | [] => 0
  | x :: r => uptoBulkEntry x + uptoBulkEntries r
def uptoBulkEntry {H : Type} : Lit × DataW H → Nat
  | (.string bytes, d) => bytes.length + uptoBulk d + 1
  | (_, d) => uptoBulk d + 1
 end
def uptoSmall : (H : Type) → List (DataW H) → Bool := fun _ ds => decide (uptoBulkAll ds ≤ 1048576)
def OpenSpec.upto (s : _root_.Go.ChangeSpec) : _root_.Go.OpenSpec := { _root_.Go.OpenSpec.ofChange s with cond := some uptoSmall }

/-- 'rosterlaw18.UrlQuiet', WHERE WHAT IT READS IS OF BULK AT MOST 1048576: true; the input reads as it did. -/
def urlQuietUptoRow : OpenClaim := { program := "ytjklnmddoiilgaa", sum := "03f97f43ea0afa4036c85dafdcd516dcf42d2e0595698e7c9a194276e6f92d55", func := "roster/rosterlaw18.UrlQuiet", spec := "urlQuiet", inPlace := ["internal/bytealg.IndexByteString", "internal/abi.NoEscape"], apart := false, narrowed := true }
def UrlQuietUptoSaid : Prop := urlQuietUptoRow.holds Try.pinned (OpenSpec.upto urlQuietSpec)

/-- 'rosterlaw18.UrlEscape', WHERE WHAT IT READS IS OF BULK AT MOST 1048576: true; the input reads as it did. -/
def urlEscapeUptoRow : OpenClaim := { program := "ytjklnmddoiilgaa", sum := "03f97f43ea0afa4036c85dafdcd516dcf42d2e0595698e7c9a194276e6f92d55", func := "roster/rosterlaw18.UrlEscape", spec := "urlEscape", inPlace := ["internal/bytealg.IndexByteString", "internal/abi.NoEscape"], apart := false, narrowed := true }
def UrlEscapeUptoSaid : Prop := urlEscapeUptoRow.holds Try.pinned (OpenSpec.upto urlEscapeSpec)

end Rows
end Go.Proofs.Ytjklnmddoiilgaa
