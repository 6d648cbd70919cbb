import Derived.Test.YtkiidlnimjjnlaaDoorChX
import Derived.Test.YtkiidlnimjjnlaaDoorCards
import Derived.ProofKit
import Derived.OpenShut
import Derived.Lib.LaidTab
namespace Go.Proofs.YtkiidlnimjjnlaaDoor
open Go.RowKit

theorem gRows : Tryd.prog.globalNamed "roster/rosterref01.rows" = some 0 := by kernel_rfl
theorem gRowsType : (Tryd.prog.globals[0]?).map (·.type) = some 104 := by kernel_rfl
theorem cRowsType : Tryd.prog.cellsOf 104 = 81 := by kernel_rfl
theorem cRowType : Tryd.prog.cellsOf 103 = 9 := by kernel_rfl
theorem cInt : Tryd.prog.cellsOf 3 = 1 := by kernel_rfl
theorem R_at (i c : Nat) (hi : i < 9) : ∃ z, ROWS[i]? = some z ∧ R i c = z.getD c 0 := by
  have h : i < ROWS.length := hi
  refine ⟨ROWS[i], by simp [h], ?_⟩
  unfold R
  simp [List.getD, h]
theorem rows_len : ∀ z ∈ ROWS, z.length = 9 := by decide

theorem tab_rows {W : World} {rest : List (String × DataW Unit)} (h : laidMet Tryd.prog (("roster/rosterref01.rows", Rows.laid_roster_rosterref01_rows) :: rest) W) : RowTab W := by
  obtain ⟨ps, ⟨g', t', cs, fuel, p, q, hg', ht', hvar, hd, _, _⟩, _⟩ := h
  obtain rfl := Option.some.inj (gRows.symm.trans hg')
  obtain rfl := Option.some.inj (gRowsType.symm.trans ht')
  have hd' : DataW.trod _ Tryd.prog W _ _ _ fuel 104 cs.toList = some (.agg (ROWS.map (Lib.tabData .i64)), p) := hd
  obtain ⟨xs, m, rfl, hx, hlen, hxl, hall⟩ := DataW.trod_array Tryd.underlying104 hd'
  intro r c hr hc
  have hr1 := hall r hr
  rw [cRowType] at hr1
  have hxs : xs.map (·.1) = ROWS.map (Lib.tabData .i64) := by
    have := congrArg Prod.fst hx
    simpa using this.symm
  obtain ⟨z, hz, hRz⟩ := R_at r c hr
  have hxr : (xs.map (·.1))[r]? = some (Lib.tabData .i64 z) := by rw [hxs]; simp [hz]
  simp only [List.getElem?_map, Option.map_eq_some_iff] at hxr
  obtain ⟨y, hy, hyz⟩ := hxr
  rw [hy] at hr1
  obtain ⟨y1, y2⟩ := y
  simp only [] at hyz
  subst hyz
  have hcs := Lib.cells_of_tab Tryd.underlying103 Tryd.underlying3 cInt cRowType hr1
  have hzl : z.length = 9 := rows_len z (List.mem_of_getElem? hz)
  have hcell : cs[r * 9 + c]? = some (.int .i64 (z.getD c 0)) := by
    have := congrArg (·[c]?) hcs
    simp only [List.getElem?_take, List.getElem?_drop, List.getElem?_map] at this
    rw [if_pos hc] at this
    have hzc : z[c]? = some (z.getD c 0) := by simp [List.getD, hzl, hc]
    rw [hzc] at this
    simpa using this
  have := World.var?_cell gRows hvar (r * 9 + c)
  rw [this, hcell, hRz]
end Go.Proofs.YtkiidlnimjjnlaaDoor
