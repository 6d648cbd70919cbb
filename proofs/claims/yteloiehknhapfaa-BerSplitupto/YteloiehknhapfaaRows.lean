/-
  No cell of these rows narrows 'for every input' (looked for: loops, veiled, ifaces, maps, wideKeys, modest, calm, conditions, laid).
  DERIVED. THE GIVEN ROWS OF THIS SEAT. 6 by the template 'for every input the law returns true; each argument reads behind the call as it read before'; 0 by the template 'total and deterministic' (their statements: YteloiehknhapfaaTotals.lean).
  GIVEN WITH THE SEED: the statements are not yours to turn. If you find one false, say at which input.
  Laid BY PROGRAM, IN A SANDBOX (cutbox-rows.mjs): the forced cells as the released guide's own fill.sh prints them over the translation 5bc88b231430c6d4… (all of the seat's roots in one cut). By AI agents, Wed Nov 11 2026. No macro, syntax, notation, axiom, sorry.
-/
import Derived.Test.YteloiehknhapfaaChecked
import GoSem.Claim
import GoSem.ClaimJoined
import GoSem.ClaimMapViews
import Derived.JoinedTies
import Derived.KernelRfl
namespace Go.Proofs.Yteloiehknhapfaa
/- THE CELL 'sum', in the pinned program and in every row, IS THE sha256 OF THE DUMP (.gsa) THAT YteloiehknhapfaaProg.lean LOADS. Nothing in Lean hashes anything: it is a label: what it is worth is what the hold of that sum in a sandbox is worth. -/
noncomputable def Try.pinned : Pinned := { name := "yteloiehknhapfaa", sum := "5bc88b231430c6d412763d0dcaf7b072791d9be0438a0bdfcacdbab58c530836", checked := Try.checked }
namespace Rows
def none {H : Type} : Left H := { results := [], args := [] }

/-- 'rosterlaw02.BerIntBack': WHATEVER THE INPUT: true; the input reads as it did. -/
def berIntBackSpec : ChangeSpec := { name := "berIntBack", fn := fun _ => fun
  | [d1, d2] => { results := [.lit (.bool true)], args := [d1, d2] }
  | _ => none }
def berIntBackRow : OpenClaim := { program := "yteloiehknhapfaa", sum := "5bc88b231430c6d412763d0dcaf7b072791d9be0438a0bdfcacdbab58c530836", func := "roster/rosterlaw02.BerIntBack", spec := "berIntBack", apart := false }
def BerIntBackSaid : Prop := berIntBackRow.holds Try.pinned (OpenSpec.ofChange berIntBackSpec)

/-- ITS FALSE NEIGHBOUR: 'it returns false'. Refute it at one input. -/
def berIntBackWrong : ChangeSpec := { name := "berIntBack", fn := fun _ => fun
  | [d1, d2] => { results := [.lit (.bool false)], args := [d1, d2] }
  | _ => none }
def BerIntBackWrongFalsely : Prop := berIntBackRow.holds Try.pinned (OpenSpec.ofChange berIntBackWrong)

/-- 'rosterlaw02.BerIntOnly': WHATEVER THE INPUT: true; the input reads as it did. -/
def berIntOnlySpec : ChangeSpec := { name := "berIntOnly", fn := fun _ => fun
  | [d] => { results := [.lit (.bool true)], args := [d] }
  | _ => none }
def berIntOnlyRow : OpenClaim := { program := "yteloiehknhapfaa", sum := "5bc88b231430c6d412763d0dcaf7b072791d9be0438a0bdfcacdbab58c530836", func := "roster/rosterlaw02.BerIntOnly", spec := "berIntOnly", apart := false }
def BerIntOnlySaid : Prop := berIntOnlyRow.holds Try.pinned (OpenSpec.ofChange berIntOnlySpec)

/-- ITS FALSE NEIGHBOUR: 'it returns false'. Refute it at one input. -/
def berIntOnlyWrong : ChangeSpec := { name := "berIntOnly", fn := fun _ => fun
  | [d] => { results := [.lit (.bool false)], args := [d] }
  | _ => none }
def BerIntOnlyWrongFalsely : Prop := berIntOnlyRow.holds Try.pinned (OpenSpec.ofChange berIntOnlyWrong)

/-- 'rosterlaw02.BerHead': WHATEVER THE INPUT: true; the input reads as it did. -/
def berHeadSpec : ChangeSpec := { name := "berHead", fn := fun _ => fun
  | [d] => { results := [.lit (.bool true)], args := [d] }
  | _ => none }
def berHeadRow : OpenClaim := { program := "yteloiehknhapfaa", sum := "5bc88b231430c6d412763d0dcaf7b072791d9be0438a0bdfcacdbab58c530836", func := "roster/rosterlaw02.BerHead", spec := "berHead", unfollowed := true, recurses := true, apart := false }
def BerHeadSaid : Prop := berHeadRow.holds Try.pinned (OpenSpec.ofChange berHeadSpec)

/-- ITS FALSE NEIGHBOUR: 'it returns false'. Refute it at one input. -/
def berHeadWrong : ChangeSpec := { name := "berHead", fn := fun _ => fun
  | [d] => { results := [.lit (.bool false)], args := [d] }
  | _ => none }
def BerHeadWrongFalsely : Prop := berHeadRow.holds Try.pinned (OpenSpec.ofChange berHeadWrong)

/-- 'rosterlaw02.BerJoin': WHATEVER THE INPUT: true; the input reads as it did. -/
def berJoinSpec : ChangeSpec := { name := "berJoin", fn := fun _ => fun
  | [d] => { results := [.lit (.bool true)], args := [d] }
  | _ => none }
def berJoinRow : OpenClaim := { program := "yteloiehknhapfaa", sum := "5bc88b231430c6d412763d0dcaf7b072791d9be0438a0bdfcacdbab58c530836", func := "roster/rosterlaw02.BerJoin", spec := "berJoin", apart := false }
def BerJoinSaid : Prop := berJoinRow.holds Try.pinned (OpenSpec.ofChange berJoinSpec)

/-- ITS FALSE NEIGHBOUR: 'it returns false'. Refute it at one input. -/
def berJoinWrong : ChangeSpec := { name := "berJoin", fn := fun _ => fun
  | [d] => { results := [.lit (.bool false)], args := [d] }
  | _ => none }
def BerJoinWrongFalsely : Prop := berJoinRow.holds Try.pinned (OpenSpec.ofChange berJoinWrong)

/-- 'rosterlaw02.BerInt': WHATEVER THE INPUT: true; the input reads as it did. -/
def berIntSpec : ChangeSpec := { name := "berInt", fn := fun _ => fun
  | [d1, d2, d3] => { results := [.lit (.bool true)], args := [d1, d2, d3] }
  | _ => none }
def berIntRow : OpenClaim := { program := "yteloiehknhapfaa", sum := "5bc88b231430c6d412763d0dcaf7b072791d9be0438a0bdfcacdbab58c530836", func := "roster/rosterlaw02.BerInt", spec := "berInt", apart := false }
def BerIntSaid : Prop := berIntRow.holds Try.pinned (OpenSpec.ofChange berIntSpec)

/-- ITS FALSE NEIGHBOUR: 'it returns false'. Refute it at one input. -/
def berIntWrong : ChangeSpec := { name := "berInt", fn := fun _ => fun
  | [d1, d2, d3] => { results := [.lit (.bool false)], args := [d1, d2, d3] }
  | _ => none }
def BerIntWrongFalsely : Prop := berIntRow.holds Try.pinned (OpenSpec.ofChange berIntWrong)

/-- 'rosterlaw02.BerSplit': WHATEVER THE INPUT: true; the input reads as it did. -/
def berSplitSpec : ChangeSpec := { name := "berSplit", fn := fun _ => fun
  | [d] => { results := [.lit (.bool true)], args := [d] }
  | _ => none }
def berSplitRow : OpenClaim := { program := "yteloiehknhapfaa", sum := "5bc88b231430c6d412763d0dcaf7b072791d9be0438a0bdfcacdbab58c530836", func := "roster/rosterlaw02.BerSplit", spec := "berSplit", unfollowed := true, recurses := true, apart := false }
def BerSplitSaid : Prop := berSplitRow.holds Try.pinned (OpenSpec.ofChange berSplitSpec)

/-- ITS FALSE NEIGHBOUR: 'it returns false'. Refute it at one input. -/
def berSplitWrong : ChangeSpec := { name := "berSplit", fn := fun _ => fun
  | [d] => { results := [.lit (.bool false)], args := [d] }
  | _ => none }
def BerSplitWrongFalsely : Prop := berSplitRow.holds Try.pinned (OpenSpec.ofChange berSplitWrong)

/- THE SECOND FORM. 'bulk': how many values and letters a reading holds, each counted each time it is reached (what is shared counts as often as it is met; a slice's spare places count too). A statement '..UptoSaid' is the law's where the arguments, and the package variables that the reading takes, are together of bulk at most 1048576: NARROWER than '..Said'. Prove '..Said' where nothing that the law and all that it calls make is longer than what came in: it says more and counts as full. Else prove '..UptoSaid'. A law counts once. -/
mutual
def uptoBulk {H : Type} : DataW H → Nat
  | .lit (.string bytes) => bytes.length + 1
  | .lit _ => 1
  | .nil => 1
  | .ptr d => uptoBulk d + 1
  | .slice elems spare => uptoBulkAll elems + uptoBulkAll spare + 1
  | .agg parts => uptoBulkAll parts + 1
  | .iface _ d => uptoBulk d + 1
  | .map entries => uptoBulkEntries entries + 1
  | .held _ => 1
def uptoBulkAll {H : Type} : List (DataW H) → Nat
  | [] => 0
  | d :: r => uptoBulk d + uptoBulkAll r
def uptoBulkEntries {H : Type} : List (Lit × DataW H) → Nat
  | [] => 0
  | x :: r => uptoBulkEntry x + uptoBulkEntries r
def uptoBulkEntry {H : Type} : Lit × DataW H → Nat
  | (.string bytes, d) => bytes.length + uptoBulk d + 1
  | (_, d) => uptoBulk d + 1
 end
def uptoSmall : (H : Type) → List (DataW H) → Bool := fun _ ds => decide (uptoBulkAll ds ≤ 1048576)
def OpenSpec.upto (s : _root_.Go.ChangeSpec) : _root_.Go.OpenSpec := { _root_.Go.OpenSpec.ofChange s with cond := some uptoSmall }

/-- 'rosterlaw02.BerIntBack', WHERE WHAT IT READS IS OF BULK AT MOST 1048576: true; the input reads as it did. -/
def berIntBackUptoRow : OpenClaim := { program := "yteloiehknhapfaa", sum := "5bc88b231430c6d412763d0dcaf7b072791d9be0438a0bdfcacdbab58c530836", func := "roster/rosterlaw02.BerIntBack", spec := "berIntBack", apart := false, narrowed := true }
def BerIntBackUptoSaid : Prop := berIntBackUptoRow.holds Try.pinned (OpenSpec.upto berIntBackSpec)

/-- 'rosterlaw02.BerIntOnly', WHERE WHAT IT READS IS OF BULK AT MOST 1048576: true; the input reads as it did. -/
def berIntOnlyUptoRow : OpenClaim := { program := "yteloiehknhapfaa", sum := "5bc88b231430c6d412763d0dcaf7b072791d9be0438a0bdfcacdbab58c530836", func := "roster/rosterlaw02.BerIntOnly", spec := "berIntOnly", apart := false, narrowed := true }
def BerIntOnlyUptoSaid : Prop := berIntOnlyUptoRow.holds Try.pinned (OpenSpec.upto berIntOnlySpec)

/-- 'rosterlaw02.BerHead', WHERE WHAT IT READS IS OF BULK AT MOST 1048576: true; the input reads as it did. -/
def berHeadUptoRow : OpenClaim := { program := "yteloiehknhapfaa", sum := "5bc88b231430c6d412763d0dcaf7b072791d9be0438a0bdfcacdbab58c530836", func := "roster/rosterlaw02.BerHead", spec := "berHead", unfollowed := true, recurses := true, apart := false, narrowed := true }
def BerHeadUptoSaid : Prop := berHeadUptoRow.holds Try.pinned (OpenSpec.upto berHeadSpec)

/-- 'rosterlaw02.BerJoin', WHERE WHAT IT READS IS OF BULK AT MOST 1048576: true; the input reads as it did. -/
def berJoinUptoRow : OpenClaim := { program := "yteloiehknhapfaa", sum := "5bc88b231430c6d412763d0dcaf7b072791d9be0438a0bdfcacdbab58c530836", func := "roster/rosterlaw02.BerJoin", spec := "berJoin", apart := false, narrowed := true }
def BerJoinUptoSaid : Prop := berJoinUptoRow.holds Try.pinned (OpenSpec.upto berJoinSpec)

/-- 'rosterlaw02.BerInt', WHERE WHAT IT READS IS OF BULK AT MOST 1048576: true; the input reads as it did. -/
def berIntUptoRow : OpenClaim := { program := "yteloiehknhapfaa", sum := "5bc88b231430c6d412763d0dcaf7b072791d9be0438a0bdfcacdbab58c530836", func := "roster/rosterlaw02.BerInt", spec := "berInt", apart := false, narrowed := true }
def BerIntUptoSaid : Prop := berIntUptoRow.holds Try.pinned (OpenSpec.upto berIntSpec)

/-- 'rosterlaw02.BerSplit', WHERE WHAT IT READS IS OF BULK AT MOST 1048576: true; the input reads as it did. -/
def berSplitUptoRow : OpenClaim := { program := "yteloiehknhapfaa", sum := "5bc88b231430c6d412763d0dcaf7b072791d9be0438a0bdfcacdbab58c530836", func := "roster/rosterlaw02.BerSplit", spec := "berSplit", unfollowed := true, recurses := true, apart := false, narrowed := true }
def BerSplitUptoSaid : Prop := berSplitUptoRow.holds Try.pinned (OpenSpec.upto berSplitSpec)

end Rows
end Go.Proofs.Yteloiehknhapfaa
