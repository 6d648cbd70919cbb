/-
  No cell of these rows narrows 'for every input' (looked for: loops, veiled, ifaces, maps, wideKeys, modest, calm, conditions, laid).
  DERIVED. THE GIVEN ROWS OF THIS SEAT. 6 by the template 'for every input the law returns true; each argument reads behind the call as it read before'; 0 by the template 'total and deterministic' (their statements: YtgjjmpijplpnnaaTotals.lean).
  GIVEN WITH THE SEED: the statements are not yours to turn. If you find one false, say at which input.
  Laid BY PROGRAM, IN A SANDBOX (cutbox-rows.mjs): the forced cells as the released guide's own fill.sh prints them over the translation 7325e3efe89c3e80… (all of the seat's roots in one cut). By AI agents, Wed Nov 11 2026. No macro, syntax, notation, axiom, sorry.
-/
import Derived.Test.YtgjjmpijplpnnaaChecked
import GoSem.Claim
import GoSem.ClaimJoined
import GoSem.ClaimMapViews
import Derived.JoinedTies
import Derived.KernelRfl
namespace Go.Proofs.Ytgjjmpijplpnnaa
/- THE CELL 'sum', in the pinned program and in every row, IS THE sha256 OF THE DUMP (.gsa) THAT YtgjjmpijplpnnaaProg.lean LOADS. Nothing in Lean hashes anything: it is a label: what it is worth is what the hold of that sum in a sandbox is worth. -/
noncomputable def Try.pinned : Pinned := { name := "ytgjjmpijplpnnaa", sum := "7325e3efe89c3e803cf552f0be047166d1531850289b12e1e286dee19c9669de", checked := Try.checked }
namespace Rows
def none {H : Type} : Left H := { results := [], args := [] }

/-- 'rosterlaw02.BerNest': WHATEVER THE INPUT: true; the input reads as it did. -/
def berNestSpec : ChangeSpec := { name := "berNest", fn := fun _ => fun
  | [d1, d2, d3] => { results := [.lit (.bool true)], args := [d1, d2, d3] }
  | _ => none }
def berNestRow : OpenClaim := { program := "ytgjjmpijplpnnaa", sum := "7325e3efe89c3e803cf552f0be047166d1531850289b12e1e286dee19c9669de", func := "roster/rosterlaw02.BerNest", spec := "berNest", unfollowed := true, recurses := true, apart := false }
def BerNestSaid : Prop := berNestRow.holds Try.pinned (OpenSpec.ofChange berNestSpec)

/-- ITS FALSE NEIGHBOUR: 'it returns false'. Refute it at one input. -/
def berNestWrong : ChangeSpec := { name := "berNest", fn := fun _ => fun
  | [d1, d2, d3] => { results := [.lit (.bool false)], args := [d1, d2, d3] }
  | _ => none }
def BerNestWrongFalsely : Prop := berNestRow.holds Try.pinned (OpenSpec.ofChange berNestWrong)

/-- 'rosterlaw02.BerTree': WHATEVER THE INPUT: true; the input reads as it did. -/
def berTreeSpec : ChangeSpec := { name := "berTree", fn := fun _ => fun
  | [d] => { results := [.lit (.bool true)], args := [d] }
  | _ => none }
def berTreeRow : OpenClaim := { program := "ytgjjmpijplpnnaa", sum := "7325e3efe89c3e803cf552f0be047166d1531850289b12e1e286dee19c9669de", func := "roster/rosterlaw02.BerTree", spec := "berTree", unfollowed := true, recurses := true, apart := false }
def BerTreeSaid : Prop := berTreeRow.holds Try.pinned (OpenSpec.ofChange berTreeSpec)

/-- ITS FALSE NEIGHBOUR: 'it returns false'. Refute it at one input. -/
def berTreeWrong : ChangeSpec := { name := "berTree", fn := fun _ => fun
  | [d] => { results := [.lit (.bool false)], args := [d] }
  | _ => none }
def BerTreeWrongFalsely : Prop := berTreeRow.holds Try.pinned (OpenSpec.ofChange berTreeWrong)

/-- 'rosterlaw02.BerFronts': WHATEVER THE INPUT: true; the input reads as it did. -/
def berFrontsSpec : ChangeSpec := { name := "berFronts", fn := fun _ => fun
  | [d1, d2, d3, d4] => { results := [.lit (.bool true)], args := [d1, d2, d3, d4] }
  | _ => none }
def berFrontsRow : OpenClaim := { program := "ytgjjmpijplpnnaa", sum := "7325e3efe89c3e803cf552f0be047166d1531850289b12e1e286dee19c9669de", func := "roster/rosterlaw02.BerFronts", spec := "berFronts", unfollowed := true, recurses := true, apart := false }
def BerFrontsSaid : Prop := berFrontsRow.holds Try.pinned (OpenSpec.ofChange berFrontsSpec)

/-- ITS FALSE NEIGHBOUR: 'it returns false'. Refute it at one input. -/
def berFrontsWrong : ChangeSpec := { name := "berFronts", fn := fun _ => fun
  | [d1, d2, d3, d4] => { results := [.lit (.bool false)], args := [d1, d2, d3, d4] }
  | _ => none }
def BerFrontsWrongFalsely : Prop := berFrontsRow.holds Try.pinned (OpenSpec.ofChange berFrontsWrong)

/-- 'rosterlaw02.BerWrite': WHATEVER THE INPUT: true; the input reads as it did. -/
def berWriteSpec : ChangeSpec := { name := "berWrite", fn := fun _ => fun
  | [d] => { results := [.lit (.bool true)], args := [d] }
  | _ => none }
def berWriteRow : OpenClaim := { program := "ytgjjmpijplpnnaa", sum := "7325e3efe89c3e803cf552f0be047166d1531850289b12e1e286dee19c9669de", func := "roster/rosterlaw02.BerWrite", spec := "berWrite", apart := false }
def BerWriteSaid : Prop := berWriteRow.holds Try.pinned (OpenSpec.ofChange berWriteSpec)

/-- ITS FALSE NEIGHBOUR: 'it returns false'. Refute it at one input. -/
def berWriteWrong : ChangeSpec := { name := "berWrite", fn := fun _ => fun
  | [d] => { results := [.lit (.bool false)], args := [d] }
  | _ => none }
def BerWriteWrongFalsely : Prop := berWriteRow.holds Try.pinned (OpenSpec.ofChange berWriteWrong)

/-- 'rosterlaw02.BerBack': WHATEVER THE INPUT: true; the input reads as it did. -/
def berBackSpec : ChangeSpec := { name := "berBack", fn := fun _ => fun
  | [d] => { results := [.lit (.bool true)], args := [d] }
  | _ => none }
def berBackRow : OpenClaim := { program := "ytgjjmpijplpnnaa", sum := "7325e3efe89c3e803cf552f0be047166d1531850289b12e1e286dee19c9669de", func := "roster/rosterlaw02.BerBack", spec := "berBack", unfollowed := true, recurses := true, apart := false }
def BerBackSaid : Prop := berBackRow.holds Try.pinned (OpenSpec.ofChange berBackSpec)

/-- ITS FALSE NEIGHBOUR: 'it returns false'. Refute it at one input. -/
def berBackWrong : ChangeSpec := { name := "berBack", fn := fun _ => fun
  | [d] => { results := [.lit (.bool false)], args := [d] }
  | _ => none }
def BerBackWrongFalsely : Prop := berBackRow.holds Try.pinned (OpenSpec.ofChange berBackWrong)

/-- 'rosterlaw02.BerForms': WHATEVER THE INPUT: true; the input reads as it did. -/
def berFormsSpec : ChangeSpec := { name := "berForms", fn := fun _ => fun
  | [d1, d2] => { results := [.lit (.bool true)], args := [d1, d2] }
  | _ => none }
def berFormsRow : OpenClaim := { program := "ytgjjmpijplpnnaa", sum := "7325e3efe89c3e803cf552f0be047166d1531850289b12e1e286dee19c9669de", func := "roster/rosterlaw02.BerForms", spec := "berForms", unfollowed := true, recurses := true, apart := false }
def BerFormsSaid : Prop := berFormsRow.holds Try.pinned (OpenSpec.ofChange berFormsSpec)

/-- ITS FALSE NEIGHBOUR: 'it returns false'. Refute it at one input. -/
def berFormsWrong : ChangeSpec := { name := "berForms", fn := fun _ => fun
  | [d1, d2] => { results := [.lit (.bool false)], args := [d1, d2] }
  | _ => none }
def BerFormsWrongFalsely : Prop := berFormsRow.holds Try.pinned (OpenSpec.ofChange berFormsWrong)

/- THE SECOND FORM. 'bulk': how many values and letters a reading holds, each counted each time it is reached (what is shared counts as often as it is met; a slice's spare places count too). A statement '..UptoSaid' is the law's where the arguments, and the package variables that the reading takes, are together of bulk at most 1048576: NARROWER than '..Said'. Prove '..Said' where nothing that the law and all that it calls make is longer than what came in: it says more and counts as full. Else prove '..UptoSaid'. A law counts once. -/
mutual
def uptoBulk {H : Type} : DataW H → Nat
  | .lit (.string bytes) => bytes.length + 1
  | .lit _ => 1
  | .nil => 1
  | .ptr d => uptoBulk d + 1
  | .slice elems spare => uptoBulkAll elems + uptoBulkAll spare + 1
  | .agg parts => uptoBulkAll parts + 1
  | .iface _ d => uptoBulk d + 1
  | .map entries => uptoBulkEntries entries + 1
  | .held _ => 1
def uptoBulkAll {H : Type} : List (DataW H) → Nat
  | [] => 0
  | d :: r => uptoBulk d + uptoBulkAll r
def uptoBulkEntries {H : Type} : List (Lit × DataW H) → Nat
  | [] => 0
  | x :: r => uptoBulkEntry x + uptoBulkEntries r
def uptoBulkEntry {H : Type} : Lit × DataW H → Nat
  | (.string bytes, d) => bytes.length + uptoBulk d + 1
  | (_, d) => uptoBulk d + 1
 end
def uptoSmall : (H : Type) → List (DataW H) → Bool := fun _ ds => decide (uptoBulkAll ds ≤ 1048576)
def OpenSpec.upto (s : _root_.Go.ChangeSpec) : _root_.Go.OpenSpec := { _root_.Go.OpenSpec.ofChange s with cond := some uptoSmall }

/-- 'rosterlaw02.BerNest', WHERE WHAT IT READS IS OF BULK AT MOST 1048576: true; the input reads as it did. -/
def berNestUptoRow : OpenClaim := { program := "ytgjjmpijplpnnaa", sum := "7325e3efe89c3e803cf552f0be047166d1531850289b12e1e286dee19c9669de", func := "roster/rosterlaw02.BerNest", spec := "berNest", unfollowed := true, recurses := true, apart := false, narrowed := true }
def BerNestUptoSaid : Prop := berNestUptoRow.holds Try.pinned (OpenSpec.upto berNestSpec)

/-- 'rosterlaw02.BerTree', WHERE WHAT IT READS IS OF BULK AT MOST 1048576: true; the input reads as it did. -/
def berTreeUptoRow : OpenClaim := { program := "ytgjjmpijplpnnaa", sum := "7325e3efe89c3e803cf552f0be047166d1531850289b12e1e286dee19c9669de", func := "roster/rosterlaw02.BerTree", spec := "berTree", unfollowed := true, recurses := true, apart := false, narrowed := true }
def BerTreeUptoSaid : Prop := berTreeUptoRow.holds Try.pinned (OpenSpec.upto berTreeSpec)

/-- 'rosterlaw02.BerFronts', WHERE WHAT IT READS IS OF BULK AT MOST 1048576: true; the input reads as it did. -/
def berFrontsUptoRow : OpenClaim := { program := "ytgjjmpijplpnnaa", sum := "7325e3efe89c3e803cf552f0be047166d1531850289b12e1e286dee19c9669de", func := "roster/rosterlaw02.BerFronts", spec := "berFronts", unfollowed := true, recurses := true, apart := false, narrowed := true }
def BerFrontsUptoSaid : Prop := berFrontsUptoRow.holds Try.pinned (OpenSpec.upto berFrontsSpec)

/-- 'rosterlaw02.BerWrite', WHERE WHAT IT READS IS OF BULK AT MOST 1048576: true; the input reads as it did. -/
def berWriteUptoRow : OpenClaim := { program := "ytgjjmpijplpnnaa", sum := "7325e3efe89c3e803cf552f0be047166d1531850289b12e1e286dee19c9669de", func := "roster/rosterlaw02.BerWrite", spec := "berWrite", apart := false, narrowed := true }
def BerWriteUptoSaid : Prop := berWriteUptoRow.holds Try.pinned (OpenSpec.upto berWriteSpec)

/-- 'rosterlaw02.BerBack', WHERE WHAT IT READS IS OF BULK AT MOST 1048576: true; the input reads as it did. -/
def berBackUptoRow : OpenClaim := { program := "ytgjjmpijplpnnaa", sum := "7325e3efe89c3e803cf552f0be047166d1531850289b12e1e286dee19c9669de", func := "roster/rosterlaw02.BerBack", spec := "berBack", unfollowed := true, recurses := true, apart := false, narrowed := true }
def BerBackUptoSaid : Prop := berBackUptoRow.holds Try.pinned (OpenSpec.upto berBackSpec)

/-- 'rosterlaw02.BerForms', WHERE WHAT IT READS IS OF BULK AT MOST 1048576: true; the input reads as it did. -/
def berFormsUptoRow : OpenClaim := { program := "ytgjjmpijplpnnaa", sum := "7325e3efe89c3e803cf552f0be047166d1531850289b12e1e286dee19c9669de", func := "roster/rosterlaw02.BerForms", spec := "berForms", unfollowed := true, recurses := true, apart := false, narrowed := true }
def BerFormsUptoSaid : Prop := berFormsUptoRow.holds Try.pinned (OpenSpec.upto berFormsSpec)

end Rows
end Go.Proofs.Ytgjjmpijplpnnaa
