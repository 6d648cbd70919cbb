import Derived.Test.YtndbbfbihheagaaDoorAtNum
import Derived.Test.YtndbbfbihheagaaDoorCards
import Derived.ProofKit
import Derived.OpenShut
import Derived.Lib.LaidTab
namespace Go.Proofs.YtndbbfbihheagaaDoor
open Go.RowKit

theorem cIntT : Tryd.prog.cellsOf 3 = 1 := by kernel_rfl
theorem cSynT : Tryd.prog.cellsOf 29 = 1 := by kernel_rfl
theorem cUsgT : Tryd.prog.cellsOf 30 = 1 := by kernel_rfl
theorem gSup : Tryd.prog.globalNamed "roster/attr.supers" = some 3 := by kernel_rfl
theorem gSyn : Tryd.prog.globalNamed "roster/attr.syntaxes" = some 1 := by kernel_rfl
theorem gUsg : Tryd.prog.globalNamed "roster/attr.usages" = some 2 := by kernel_rfl
theorem gKnd : Tryd.prog.globalNamed "roster/rosterref04.kinds" = some 0 := by kernel_rfl
theorem gSupType : (Tryd.prog.globals[3]?).map (·.type) = some 59 := by kernel_rfl
theorem gSynType : (Tryd.prog.globals[1]?).map (·.type) = some 57 := by kernel_rfl
theorem gUsgType : (Tryd.prog.globals[2]?).map (·.type) = some 58 := by kernel_rfl
theorem gKndType : (Tryd.prog.globals[0]?).map (·.type) = some 51 := by kernel_rfl
theorem uSup : Tryd.prog.underlying 59 = some (.array 62 3) := by kernel_rfl
theorem uSyn : Tryd.prog.underlying 57 = some (.array 62 29) := by kernel_rfl
theorem uUsg : Tryd.prog.underlying 58 = some (.array 62 30) := by kernel_rfl
theorem uKnd : Tryd.prog.underlying 51 = some (.array 62 50) := by kernel_rfl
theorem uKnd3 : Tryd.prog.underlying 50 = some (.array 3 3) := by kernel_rfl
theorem uInt : Tryd.prog.underlying 3 = some (.int .i64) := by kernel_rfl
theorem uSynE : Tryd.prog.underlying 29 = some (.int .i64) := by kernel_rfl
theorem uUsgE : Tryd.prog.underlying 30 = some (.int .i64) := by kernel_rfl
theorem sup_len : SUP.length = 62 := by kernel_rfl
theorem syn_len : SYN.length = 62 := by kernel_rfl
theorem usg_len : USG.length = 62 := by kernel_rfl
theorem knd_len : KND.length = 62 := by kernel_rfl
theorem knd_lens : KND.all (fun z => z.length == 3) = true := by kernel_rfl

theorem tab_supers {W : World} {rest : List (String × DataW Unit)} (h : laidMet Tryd.prog (("roster/attr.supers", Rows.laid_roster_attr_supers) :: rest) W) : ∀ i, i < 62 → W.cell? ⟨3, i, none⟩ = some (.int .i64 (SUP.getD i 0)) := by
  have t : Lib.TabIs Tryd.prog W "roster/attr.supers" .i64 SUP :=
    Lib.tabIs_of_head (rest := rest) gSup gSupType uSup uInt cIntT (by kernel_rfl) h
  intro i hi
  exact t.cell gSup i (by rw [sup_len]; exact hi)
theorem tab_syntaxes {W : World} {rest : List (String × DataW Unit)} (h : laidMet Tryd.prog (("roster/attr.syntaxes", Rows.laid_roster_attr_syntaxes) :: rest) W) : ∀ i, i < 62 → W.cell? ⟨1, i, none⟩ = some (.int .i64 (SYN.getD i 0)) := by
  have t : Lib.TabIs Tryd.prog W "roster/attr.syntaxes" .i64 SYN :=
    Lib.tabIs_of_head (rest := rest) gSyn gSynType uSyn uSynE cSynT (by kernel_rfl) h
  intro i hi
  exact t.cell gSyn i (by rw [syn_len]; exact hi)
theorem tab_usages {W : World} {rest : List (String × DataW Unit)} (h : laidMet Tryd.prog (("roster/attr.usages", Rows.laid_roster_attr_usages) :: rest) W) : ∀ i, i < 62 → W.cell? ⟨2, i, none⟩ = some (.int .i64 (USG.getD i 0)) := by
  have t : Lib.TabIs Tryd.prog W "roster/attr.usages" .i64 USG :=
    Lib.tabIs_of_head (rest := rest) gUsg gUsgType uUsg uUsgE cUsgT (by kernel_rfl) h
  intro i hi
  exact t.cell gUsg i (by rw [usg_len]; exact hi)
theorem cKndRow : Tryd.prog.cellsOf 50 = 3 := by kernel_rfl
theorem knd_at (r : Nat) (hr : r < 62) : ∃ z, KND[r]? = some z ∧ KND.getD r [] = z := by
  have h : r < KND.length := by rw [knd_len]; exact hr
  exact ⟨KND[r], by simp [h], by simp [List.getD, h]⟩

theorem tab_kinds {W : World} {rest : List (String × DataW Unit)} (h : laidMet Tryd.prog (("roster/rosterref04.kinds", Rows.laid_roster_rosterref04_kinds) :: rest) W) : ∀ i c, i < 62 → c < 3 → W.cell? ⟨0, i * 3 + c, none⟩ = some (.int .i64 ((KND.getD i []).getD c 0)) := by
  obtain ⟨ps, ⟨g', t', cs, fuel, p, q, hg', ht', hvar, hd, _, _⟩, _⟩ := h
  obtain rfl := Option.some.inj (gKnd.symm.trans hg')
  obtain rfl := Option.some.inj (gKndType.symm.trans ht')
  have hd' : DataW.trod _ Tryd.prog W _ _ _ fuel 51 cs.toList = some (.agg (KND.map (Lib.tabData .i64)), p) := hd
  obtain ⟨xs, m, rfl, hx, hlen, hxl, hall⟩ := DataW.trod_array uKnd hd'
  intro r c hr hc
  have hr1 := hall r hr
  rw [cKndRow] at hr1
  have hxs : xs.map (·.1) = KND.map (Lib.tabData .i64) := by
    have := congrArg Prod.fst hx
    simpa using this.symm
  obtain ⟨z, hz, hRz⟩ := knd_at r hr
  have hxr : (xs.map (·.1))[r]? = some (Lib.tabData .i64 z) := by rw [hxs]; simp [hz]
  simp only [List.getElem?_map, Option.map_eq_some_iff] at hxr
  obtain ⟨y, hy, hyz⟩ := hxr
  rw [hy] at hr1
  obtain ⟨y1, y2⟩ := y
  simp only [] at hyz
  subst hyz
  have hcs := Lib.cells_of_tab uKnd3 uInt cIntT cKndRow hr1
  have hzl : z.length = 3 := by
    have h := List.all_eq_true.1 knd_lens z (List.mem_of_getElem? hz)
    simpa using h
  have hcell : cs[r * 3 + c]? = some (.int .i64 (z.getD c 0)) := by
    have := congrArg (·[c]?) hcs
    simp only [List.getElem?_take, List.getElem?_drop, List.getElem?_map] at this
    rw [if_pos hc] at this
    have hzc : z[c]? = some (z.getD c 0) := by simp [List.getD, hzl, hc]
    rw [hzc] at this
    simpa using this
  have := World.var?_cell gKnd hvar (r * 3 + c)
  rw [this, hcell, hRz]
end Go.Proofs.YtndbbfbihheagaaDoor
