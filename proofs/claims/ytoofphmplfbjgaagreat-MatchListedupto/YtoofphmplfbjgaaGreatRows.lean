/-
  No cell of these rows narrows 'for every input' (looked for: loops, veiled, ifaces, maps, wideKeys, modest, calm, conditions, laid).
  DERIVED. THE GIVEN ROWS OF THIS SEAT. 4 by the template 'for every input the law returns true; each argument reads behind the call as it read before'; 0 by the template 'total and deterministic' (their statements: YtoofphmplfbjgaaGreatTotals.lean).
  GIVEN WITH THE SEED: the statements are not yours to turn. If you find one false, say at which input.
  Laid BY PROGRAM, IN A SANDBOX (cutbox-rows.mjs): the forced cells as the released guide's own fill.sh prints them over the translation f936b1ccdc17c7e9… (all of the seat's roots in one cut). By AI agents, Wed Nov 11 2026. No macro, syntax, notation, axiom, sorry.
-/
import Derived.Test.YtoofphmplfbjgaaGreatChecked
import GoSem.Claim
import GoSem.ClaimJoined
import GoSem.ClaimMapViews
import Derived.JoinedTies
import Derived.KernelRfl
namespace Go.Proofs.YtoofphmplfbjgaaGreat
/- THE CELL 'sum', in the pinned program and in every row, IS THE sha256 OF THE DUMP (.gsa) THAT YtoofphmplfbjgaaGreatProg.lean LOADS. Nothing in Lean hashes anything: it is a label: what it is worth is what the hold of that sum in a sandbox is worth. -/
noncomputable def Tryz.pinned : Pinned := { name := "ytoofphmplfbjgaagreat", sum := "f936b1ccdc17c7e99f19b087cf4a8455fd79e7eb8d248c8e831f4d21099ee6c0", checked := Tryz.checked }
namespace Rows
def none {H : Type} : Left H := { results := [], args := [] }

/-- 'rosterlaw06.MatchSame': WHATEVER THE INPUT: true; the input reads as it did. -/
def matchSameSpec : ChangeSpec := { name := "matchSame", fn := fun _ => fun
  | [d1, d2, d3] => { results := [.lit (.bool true)], args := [d1, d2, d3] }
  | _ => none }
def matchSameRow : OpenClaim := { program := "ytoofphmplfbjgaagreat", sum := "f936b1ccdc17c7e99f19b087cf4a8455fd79e7eb8d248c8e831f4d21099ee6c0", func := "roster/rosterlaw06.MatchSame", spec := "matchSame", unfollowed := true, recurses := true, apart := false }
def MatchSameSaid : Prop := matchSameRow.holds Tryz.pinned (OpenSpec.ofChange matchSameSpec)

/-- ITS FALSE NEIGHBOUR: 'it returns false'. Refute it at one input. -/
def matchSameWrong : ChangeSpec := { name := "matchSame", fn := fun _ => fun
  | [d1, d2, d3] => { results := [.lit (.bool false)], args := [d1, d2, d3] }
  | _ => none }
def MatchSameWrongFalsely : Prop := matchSameRow.holds Tryz.pinned (OpenSpec.ofChange matchSameWrong)

/-- 'rosterlaw06.MatchMonths': WHATEVER THE INPUT: true; the input reads as it did. -/
def matchMonthsSpec : ChangeSpec := { name := "matchMonths", fn := fun _ => fun
  | [d1, d2] => { results := [.lit (.bool true)], args := [d1, d2] }
  | _ => none }
def matchMonthsRow : OpenClaim := { program := "ytoofphmplfbjgaagreat", sum := "f936b1ccdc17c7e99f19b087cf4a8455fd79e7eb8d248c8e831f4d21099ee6c0", func := "roster/rosterlaw06.MatchMonths", spec := "matchMonths", unfollowed := true, recurses := true, apart := false }
def MatchMonthsSaid : Prop := matchMonthsRow.holds Tryz.pinned (OpenSpec.ofChange matchMonthsSpec)

/-- ITS FALSE NEIGHBOUR: 'it returns false'. Refute it at one input. -/
def matchMonthsWrong : ChangeSpec := { name := "matchMonths", fn := fun _ => fun
  | [d1, d2] => { results := [.lit (.bool false)], args := [d1, d2] }
  | _ => none }
def MatchMonthsWrongFalsely : Prop := matchMonthsRow.holds Tryz.pinned (OpenSpec.ofChange matchMonthsWrong)

/-- 'rosterlaw06.MatchListed': WHATEVER THE INPUT: true; the input reads as it did. -/
def matchListedSpec : ChangeSpec := { name := "matchListed", fn := fun _ => fun
  | [d1, d2, d3, d4] => { results := [.lit (.bool true)], args := [d1, d2, d3, d4] }
  | _ => none }
def matchListedRow : OpenClaim := { program := "ytoofphmplfbjgaagreat", sum := "f936b1ccdc17c7e99f19b087cf4a8455fd79e7eb8d248c8e831f4d21099ee6c0", func := "roster/rosterlaw06.MatchListed", spec := "matchListed", unfollowed := true, recurses := true, apart := false }
def MatchListedSaid : Prop := matchListedRow.holds Tryz.pinned (OpenSpec.ofChange matchListedSpec)

/-- ITS FALSE NEIGHBOUR: 'it returns false'. Refute it at one input. -/
def matchListedWrong : ChangeSpec := { name := "matchListed", fn := fun _ => fun
  | [d1, d2, d3, d4] => { results := [.lit (.bool false)], args := [d1, d2, d3, d4] }
  | _ => none }
def MatchListedWrongFalsely : Prop := matchListedRow.holds Tryz.pinned (OpenSpec.ofChange matchListedWrong)

/-- 'rosterlaw06.MatchLines': WHATEVER THE INPUT: true; the input reads as it did. -/
def matchLinesSpec : ChangeSpec := { name := "matchLines", fn := fun _ => fun
  | [d1, d2, d3] => { results := [.lit (.bool true)], args := [d1, d2, d3] }
  | _ => none }
def matchLinesRow : OpenClaim := { program := "ytoofphmplfbjgaagreat", sum := "f936b1ccdc17c7e99f19b087cf4a8455fd79e7eb8d248c8e831f4d21099ee6c0", func := "roster/rosterlaw06.MatchLines", spec := "matchLines", unfollowed := true, recurses := true, apart := false }
def MatchLinesSaid : Prop := matchLinesRow.holds Tryz.pinned (OpenSpec.ofChange matchLinesSpec)

/-- ITS FALSE NEIGHBOUR: 'it returns false'. Refute it at one input. -/
def matchLinesWrong : ChangeSpec := { name := "matchLines", fn := fun _ => fun
  | [d1, d2, d3] => { results := [.lit (.bool false)], args := [d1, d2, d3] }
  | _ => none }
def MatchLinesWrongFalsely : Prop := matchLinesRow.holds Tryz.pinned (OpenSpec.ofChange matchLinesWrong)

/- THE SECOND FORM. 'bulk': how many values and letters a reading holds, each counted each time it is reached (what is shared counts as often as it is met; a slice's spare places count too). A statement '..UptoSaid' is the law's where the arguments, and the package variables that the reading takes, are together of bulk at most 1048576: NARROWER than '..Said'. Prove '..Said' where nothing that the law and all that it calls make is longer than what came in: it says more and counts as full. Else prove '..UptoSaid'. A law counts once. -/
mutual
def uptoBulk {H : Type} : DataW H → Nat
  | .lit (.string bytes) => bytes.length + 1
  | .lit _ => 1
  | .nil => 1
  | .ptr d => uptoBulk d + 1
  | .slice elems spare => uptoBulkAll elems + uptoBulkAll spare + 1
  | .agg parts => uptoBulkAll parts + 1
  | .iface _ d => uptoBulk d + 1
  | .map entries => uptoBulkEntries entries + 1
  | .held _ => 1
def uptoBulkAll {H : Type} : List (DataW H) → Nat
  | [] => 0
  | d :: r => uptoBulk d + uptoBulkAll r
def uptoBulkEntries {H : Type} : List (Lit × DataW H) → Nat
  | [] => 0
  | x :: r => uptoBulkEntry x + uptoBulkEntries r
def uptoBulkEntry {H : Type} : Lit × DataW H → Nat
  | (.string bytes, d) => bytes.length + uptoBulk d + 1
  | (_, d) => uptoBulk d + 1
 end
def uptoSmall : (H : Type) → List (DataW H) → Bool := fun _ ds => decide (uptoBulkAll ds ≤ 1048576)
def OpenSpec.upto (s : _root_.Go.ChangeSpec) : _root_.Go.OpenSpec := { _root_.Go.OpenSpec.ofChange s with cond := some uptoSmall }

/-- 'rosterlaw06.MatchSame', WHERE WHAT IT READS IS OF BULK AT MOST 1048576: true; the input reads as it did. -/
def matchSameUptoRow : OpenClaim := { program := "ytoofphmplfbjgaagreat", sum := "f936b1ccdc17c7e99f19b087cf4a8455fd79e7eb8d248c8e831f4d21099ee6c0", func := "roster/rosterlaw06.MatchSame", spec := "matchSame", unfollowed := true, recurses := true, apart := false, narrowed := true }
def MatchSameUptoSaid : Prop := matchSameUptoRow.holds Tryz.pinned (OpenSpec.upto matchSameSpec)

/-- 'rosterlaw06.MatchMonths', WHERE WHAT IT READS IS OF BULK AT MOST 1048576: true; the input reads as it did. -/
def matchMonthsUptoRow : OpenClaim := { program := "ytoofphmplfbjgaagreat", sum := "f936b1ccdc17c7e99f19b087cf4a8455fd79e7eb8d248c8e831f4d21099ee6c0", func := "roster/rosterlaw06.MatchMonths", spec := "matchMonths", unfollowed := true, recurses := true, apart := false, narrowed := true }
def MatchMonthsUptoSaid : Prop := matchMonthsUptoRow.holds Tryz.pinned (OpenSpec.upto matchMonthsSpec)

/-- 'rosterlaw06.MatchListed', WHERE WHAT IT READS IS OF BULK AT MOST 1048576: true; the input reads as it did. -/
def matchListedUptoRow : OpenClaim := { program := "ytoofphmplfbjgaagreat", sum := "f936b1ccdc17c7e99f19b087cf4a8455fd79e7eb8d248c8e831f4d21099ee6c0", func := "roster/rosterlaw06.MatchListed", spec := "matchListed", unfollowed := true, recurses := true, apart := false, narrowed := true }
def MatchListedUptoSaid : Prop := matchListedUptoRow.holds Tryz.pinned (OpenSpec.upto matchListedSpec)

/-- 'rosterlaw06.MatchLines', WHERE WHAT IT READS IS OF BULK AT MOST 1048576: true; the input reads as it did. -/
def matchLinesUptoRow : OpenClaim := { program := "ytoofphmplfbjgaagreat", sum := "f936b1ccdc17c7e99f19b087cf4a8455fd79e7eb8d248c8e831f4d21099ee6c0", func := "roster/rosterlaw06.MatchLines", spec := "matchLines", unfollowed := true, recurses := true, apart := false, narrowed := true }
def MatchLinesUptoSaid : Prop := matchLinesUptoRow.holds Tryz.pinned (OpenSpec.upto matchLinesSpec)

end Rows
end Go.Proofs.YtoofphmplfbjgaaGreat
