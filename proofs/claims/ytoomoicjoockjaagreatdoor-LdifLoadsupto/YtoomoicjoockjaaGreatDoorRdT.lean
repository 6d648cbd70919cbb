import Derived.Test.YtoomoicjoockjaaGreatDoorTabsBase
import Derived.Test.YtoomoicjoockjaaGreatDoorGLrA
import Derived.ProofKit
import Derived.OpenShut
import Derived.Lib.LaidTab
namespace Go.Proofs.YtoomoicjoockjaaGreatDoor
open Go.RowKit
open Lr (ChgTab chB coB)

theorem gCw : Tryz.prog.globalNamed "roster/ldif.changeWords" = some 1 := by kernel_rfl
theorem gCwType : (Tryz.prog.globals[1]?).map (·.type) = some 99 := by kernel_rfl
theorem uCw : Tryz.prog.underlying 99 = some (.array 2 9) := by kernel_rfl
theorem cStr : Tryz.prog.cellsOf 9 = 1 := by kernel_rfl
set_option maxRecDepth 100000 in
theorem tab_changeWords {W : World} {rest : List (String × DataW Unit)} (h : laidMet Tryz.prog (("roster/ldif.changeWords", Rows.laid_roster_ldif_changeWords) :: rest) W) : ChgTab W := by
  obtain ⟨ps, ⟨g', t', cs, fuel, p, q, hg', ht', hvar, hd, _, _⟩, _⟩ := h
  obtain rfl := Option.some.inj (gCw.symm.trans hg')
  obtain rfl := Option.some.inj (gCwType.symm.trans ht')
  have hd' : DataW.trod _ Tryz.prog W _ _ _ fuel 99 cs.toList = some (Rows.laid_roster_ldif_changeWords, p) := hd
  obtain ⟨xs, m, rfl, hx, hlen, hxl, hall⟩ := DataW.trod_array uCw hd'
  have hxs : (Rows.laid_roster_ldif_changeWords : DataW Unit) = .agg (xs.map (·.1)) := by
    have := congrArg Prod.fst hx
    simpa using this
  have hL : xs.map (·.1) = [(.lit (.string chB) : DataW Unit), .lit (.string coB)] := by
    have h2 : (Rows.laid_roster_ldif_changeWords : DataW Unit) = .agg [.lit (.string chB), .lit (.string coB)] := rfl
    rw [h2] at hxs
    injection hxs with hxs
    exact hxs.symm
  have one : ∀ (r : Nat) (k : List UInt8), r < 2 → (xs.map (·.1))[r]? = some (.lit (.string k)) → W.cell? ⟨1, r, none⟩ = some (.string (S k)) := fun r k hr hk => by
    have hr1 := hall r hr
    rw [cStr] at hr1
    simp only [List.getElem?_map, Option.map_eq_some_iff] at hk
    obtain ⟨y, hy, hyz⟩ := hk
    rw [hy] at hr1
    obtain ⟨y1, y2⟩ := y
    simp only [] at hyz
    subst hyz
    obtain ⟨s, hs, hs2, _⟩ := DataW.trod_string Tryz.underlying9 hr1
    have hse : s.data.toList = k := by
      injection hs2 with hz
      injection hz with hz
      first | exact hz.symm | (injection hz with hz; exact hz.symm)
    have hcell : cs[r]? = some (.string s) := by
      have := congrArg (·[0]?) hs
      simp only [List.getElem?_take, List.getElem?_drop] at this
      simpa using this
    have := World.var?_cell gCw hvar r
    rw [this, hcell, ← hse, S_of]
  exact ⟨one 0 chB (by decide) (by rw [hL]; rfl), one 1 coB (by decide) (by rw [hL]; rfl)⟩
end Go.Proofs.YtoomoicjoockjaaGreatDoor
