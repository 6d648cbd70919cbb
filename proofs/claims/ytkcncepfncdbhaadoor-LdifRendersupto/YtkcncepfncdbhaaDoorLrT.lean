import Derived.Test.YtkcncepfncdbhaaDoorLrV
import Derived.Test.YtkcncepfncdbhaaDoorBase
import Derived.Test.YtkcncepfncdbhaaDoorCards
import Derived.ProofKit
import Derived.OpenShut
import Derived.Lib.LaidTab
namespace Go.Proofs.YtkcncepfncdbhaaDoor
namespace Lr
open Go.RowKit
open TextMath (al)

theorem gAl : Tryd.prog.globalNamed "roster/text.base64Alphabet" = some 1 := by kernel_rfl
theorem gAlType : (Tryd.prog.globals[1]?).map (·.type) = some 92 := by kernel_rfl
theorem cAlType : Tryd.prog.cellsOf 92 = 64 := by kernel_rfl
theorem cU8b : Tryd.prog.cellsOf 5 = 1 := by kernel_rfl
def alZ : List Int := [65, 66, 67, 68, 69, 70, 71, 72, 73, 74, 75, 76, 77, 78, 79, 80, 81, 82, 83, 84, 85, 86, 87, 88, 89, 90, 97, 98, 99, 100, 101, 102, 103, 104, 105, 106, 107, 108, 109, 110, 111, 112, 113, 114, 115, 116, 117, 118, 119, 120, 121, 122, 48, 49, 50, 51, 52, 53, 54, 55, 56, 57, 43, 47]
theorem al_list : ∀ i : Fin 64, alZ.getD i.val 0 = ((al i.val).toNat : Int) := by decide +kernel
theorem tab_base64Alphabet {W : World} {rest : List (String × DataW Unit)} (h : laidMet Tryd.prog (("roster/text.base64Alphabet", Rows.laid_roster_text_base64Alphabet) :: rest) W) : AlTab W := by
  have t : Lib.TabIs Tryd.prog W "roster/text.base64Alphabet" .u8 alZ :=
    Lib.tabIs_of_head (rest := rest) gAl gAlType Tryd.underlying92 Tryd.underlying5 cU8b cAlType h
  intro i hi
  rw [t.cell gAl i (by exact hi), al_list ⟨i, hi⟩]
theorem gCw : Tryd.prog.globalNamed "roster/ldif.changeWords" = some 0 := by kernel_rfl
theorem gCwType : (Tryd.prog.globals[0]?).map (·.type) = some 65 := by kernel_rfl
theorem uCw : Tryd.prog.underlying 65 = some (.array 2 9) := by kernel_rfl
theorem cStr : Tryd.prog.cellsOf 9 = 1 := by kernel_rfl
set_option maxRecDepth 100000 in
theorem tab_changeWords {W : World} {rest : List (String × DataW Unit)} (h : laidMet Tryd.prog (("roster/ldif.changeWords", Rows.laid_roster_ldif_changeWords) :: rest) W) : ChgTab W := by
  obtain ⟨ps, ⟨g', t', cs, fuel, p, q, hg', ht', hvar, hd, _, _⟩, _⟩ := h
  obtain rfl := Option.some.inj (gCw.symm.trans hg')
  obtain rfl := Option.some.inj (gCwType.symm.trans ht')
  have hd' : DataW.trod _ Tryd.prog W _ _ _ fuel 65 cs.toList = some (Rows.laid_roster_ldif_changeWords, p) := hd
  obtain ⟨xs, m, rfl, hx, hlen, hxl, hall⟩ := DataW.trod_array uCw hd'
  have hxs : (Rows.laid_roster_ldif_changeWords : DataW Unit) = .agg (xs.map (·.1)) := by
    have := congrArg Prod.fst hx
    simpa using this
  have hL : xs.map (·.1) = [(.lit (.string chB) : DataW Unit), .lit (.string coB)] := by
    have h2 : (Rows.laid_roster_ldif_changeWords : DataW Unit) = .agg [.lit (.string chB), .lit (.string coB)] := rfl
    rw [h2] at hxs
    injection hxs with hxs
    exact hxs.symm
  have one : ∀ (r : Nat) (k : List UInt8), r < 2 → (xs.map (·.1))[r]? = some (.lit (.string k)) → W.cell? ⟨0, r, none⟩ = some (.string (S k)) := fun r k hr hk => by
    have hr1 := hall r hr
    rw [cStr] at hr1
    simp only [List.getElem?_map, Option.map_eq_some_iff] at hk
    obtain ⟨y, hy, hyz⟩ := hk
    rw [hy] at hr1
    obtain ⟨y1, y2⟩ := y
    simp only [] at hyz
    subst hyz
    obtain ⟨s, hs, hs2, _⟩ := DataW.trod_string Tryd.underlying9 hr1
    have hse : s.data.toList = k := by
      injection hs2 with hz
      injection hz with hz
      first | exact hz.symm | (injection hz with hz; exact hz.symm)
    have hcell : cs[r]? = some (.string s) := by
      have := congrArg (·[0]?) hs
      simp only [List.getElem?_take, List.getElem?_drop] at this
      simpa using this
    have := World.var?_cell gCw hvar r
    rw [this, hcell, ← hse, S_of]
  exact ⟨one 0 chB (by decide) (by rw [hL]; rfl), one 1 coB (by decide) (by rw [hL]; rfl)⟩
end Lr
end Go.Proofs.YtkcncepfncdbhaaDoor
