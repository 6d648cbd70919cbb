import Derived.Test.YtilglidhlcmfbaaDoorHex
import Derived.Test.YtilglidhlcmfbaaDoorCards
import Derived.ProofKit
import Derived.Lib.LaidTab
namespace Go.Proofs.YtilglidhlcmfbaaDoor
open Go.RowKit
open TextMath (dg)

theorem gHex : Tryd.prog.globalNamed "roster/text.hexDigits" = some 1 := by kernel_rfl
theorem gHexType : (Tryd.prog.globals[1]?).map (·.type) = some 46 := by kernel_rfl
theorem cHexType : Tryd.prog.cellsOf 46 = 16 := by kernel_rfl
theorem cU8 : Tryd.prog.cellsOf 5 = 1 := by kernel_rfl
theorem dg_list : ∀ i : Fin 16, ([48, 49, 50, 51, 52, 53, 54, 55, 56, 57, 97, 98, 99, 100, 101, 102] : List Int).getD i.val 0 = ((dg i.val).toNat : Int) := by decide
theorem tab_hexDigits {W : World} {rest : List (String × DataW Unit)} (h : laidMet Tryd.prog (("roster/text.hexDigits", Rows.laid_roster_text_hexDigits) :: rest) W) : HexTab W := by
  have t : Lib.TabIs Tryd.prog W "roster/text.hexDigits" .u8 [48, 49, 50, 51, 52, 53, 54, 55, 56, 57, 97, 98, 99, 100, 101, 102] :=
    Lib.tabIs_of_head (rest := rest) gHex gHexType Tryd.underlying46 Tryd.underlying5 cU8 cHexType h
  intro i hi
  rw [t.cell gHex i (by simpa using hi), dg_list ⟨i, hi⟩]

end Go.Proofs.YtilglidhlcmfbaaDoor
