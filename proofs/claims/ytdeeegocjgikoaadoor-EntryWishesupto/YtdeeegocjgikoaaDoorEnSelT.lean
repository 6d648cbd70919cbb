import Derived.Test.YtdeeegocjgikoaaDoorEnWish3
namespace Go.Proofs.YtdeeegocjgikoaaDoor
open Go.RowKit
open TextMath (fold lo)
set_option linter.unusedVariables false

/-- What a list of wishes asks for. -/
def wants (l : List (List UInt8)) (c : List UInt8) : Bool := (wishT l).any fun t => askQ t c
theorem selectT_any (ty : Bool) (l : List (List UInt8)) (wa : Option Addr) (wc : Nat) (ln : Int) (nm : ByteArray) (ka : Option Addr) (kn kc : Nat) (xs : List Atr) (a : Option Addr) (c : Nat) (w : World) (hl : l.length ≤ 4194304) (hlz : ∀ t ∈ l, t.length ≤ 1048576) (hw : Row w wa l) (hn : xs.length ≤ 1048576) (hx : ∀ x ∈ xs, x.c.length ≤ 1048576) (hxl : ∀ x ∈ xs, x.l.length ≤ 1048576) (h : ARow w a xs) (hS : SupTab w) (hT : NumT3 w) :
    Calls Tryd.prog 7 #[.agg #[.int .i64 ln, .string nm, .slice ka kn kc, .slice a xs.length c], .slice wa l.length wc, .bool ty] w fun e w' => (∃ v zs, e = .returned v ∧ MadeA w' w.heap.size v zs ∧ zs.map pl = selL (wants l) ty xs) ∧ Below w.heap.size w w' := by
  refine select_any ty (wants l) l.length wa wc ln nm ka kn kc xs a c w hn hx hxl h (fun W hW => ?_)
  refine (wish_any l wa wc W hl hlz (hw.below hW)).mono ?_
  rintro e w' ⟨rfl, u, o, n, D, L, hWs, hD, hF⟩
  refine ⟨⟨_, _, _, rfl, fun X hX d hd => ?_⟩, hWs.2.2.2.2⟩
  have hz : Below w.heap.size w X := hW.trans ((hWs.2.2.2.2.trans (hX.mono hWs.2.2.2.2.size)).mono hW.size)
  have hm := wish_math l L u o hF.1 hF.2.1 hF.2.2.1 hF.2.2.2.1 d
  refine (wishTest_any W X u o n D L d (hWs.below hX) hD hF.2.2.2.2 hd (hS.below hz) (hT.below hz)).mono ?_
  rintro e w'' ⟨rfl, hb⟩
  rw [hm]
  exact ⟨rfl, hb⟩
end Go.Proofs.YtdeeegocjgikoaaDoor
