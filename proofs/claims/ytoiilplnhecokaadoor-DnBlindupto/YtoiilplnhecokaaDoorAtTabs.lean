import Derived.Test.YtoiilplnhecokaaDoorAtNum
import Derived.Test.YtoiilplnhecokaaDoorCards
import Derived.ProofKit
import Derived.OpenShut
import Derived.Lib.LaidTab
namespace Go.Proofs.YtoiilplnhecokaaDoor
open Go.RowKit

theorem cIntT : Tryd.prog.cellsOf 3 = 1 := by kernel_rfl
theorem cSynT : Tryd.prog.cellsOf 47 = 1 := by kernel_rfl
theorem cUsgT : Tryd.prog.cellsOf 48 = 1 := by kernel_rfl
theorem gSup : Tryd.prog.globalNamed "roster/attr.supers" = some 6 := by kernel_rfl
theorem gSyn : Tryd.prog.globalNamed "roster/attr.syntaxes" = some 4 := by kernel_rfl
theorem gUsg : Tryd.prog.globalNamed "roster/attr.usages" = some 5 := by kernel_rfl
theorem gSupType : (Tryd.prog.globals[6]?).map (·.type) = some 98 := by kernel_rfl
theorem gSynType : (Tryd.prog.globals[4]?).map (·.type) = some 96 := by kernel_rfl
theorem gUsgType : (Tryd.prog.globals[5]?).map (·.type) = some 97 := by kernel_rfl
theorem uSup : Tryd.prog.underlying 98 = some (.array 62 3) := by kernel_rfl
theorem uSyn : Tryd.prog.underlying 96 = some (.array 62 47) := by kernel_rfl
theorem uUsg : Tryd.prog.underlying 97 = some (.array 62 48) := by kernel_rfl
theorem uInt : Tryd.prog.underlying 3 = some (.int .i64) := by kernel_rfl
theorem uSynE : Tryd.prog.underlying 47 = some (.int .i64) := by kernel_rfl
theorem uUsgE : Tryd.prog.underlying 48 = some (.int .i64) := by kernel_rfl
theorem sup_len : SUP.length = 62 := by kernel_rfl
theorem syn_len : SYN.length = 62 := by kernel_rfl
theorem usg_len : USG.length = 62 := by kernel_rfl
theorem knd_len : KND.length = 62 := by kernel_rfl
theorem knd_lens : KND.all (fun z => z.length == 3) = true := by kernel_rfl

theorem tab_supers {W : World} {rest : List (String × DataW Unit)} (h : laidMet Tryd.prog (("roster/attr.supers", Rows.laid_roster_attr_supers) :: rest) W) : ∀ i, i < 62 → W.cell? ⟨6, i, none⟩ = some (.int .i64 (SUP.getD i 0)) := by
  have t : Lib.TabIs Tryd.prog W "roster/attr.supers" .i64 SUP :=
    Lib.tabIs_of_head (rest := rest) gSup gSupType uSup uInt cIntT (by kernel_rfl) h
  intro i hi
  exact t.cell gSup i (by rw [sup_len]; exact hi)
theorem tab_syntaxes {W : World} {rest : List (String × DataW Unit)} (h : laidMet Tryd.prog (("roster/attr.syntaxes", Rows.laid_roster_attr_syntaxes) :: rest) W) : ∀ i, i < 62 → W.cell? ⟨4, i, none⟩ = some (.int .i64 (SYN.getD i 0)) := by
  have t : Lib.TabIs Tryd.prog W "roster/attr.syntaxes" .i64 SYN :=
    Lib.tabIs_of_head (rest := rest) gSyn gSynType uSyn uSynE cSynT (by kernel_rfl) h
  intro i hi
  exact t.cell gSyn i (by rw [syn_len]; exact hi)
theorem tab_usages {W : World} {rest : List (String × DataW Unit)} (h : laidMet Tryd.prog (("roster/attr.usages", Rows.laid_roster_attr_usages) :: rest) W) : ∀ i, i < 62 → W.cell? ⟨5, i, none⟩ = some (.int .i64 (USG.getD i 0)) := by
  have t : Lib.TabIs Tryd.prog W "roster/attr.usages" .i64 USG :=
    Lib.tabIs_of_head (rest := rest) gUsg gUsgType uUsg uUsgE cUsgT (by kernel_rfl) h
  intro i hi
  exact t.cell gUsg i (by rw [usg_len]; exact hi)
theorem knd_at (r : Nat) (hr : r < 62) : ∃ z, KND[r]? = some z ∧ KND.getD r [] = z := by
  have h : r < KND.length := by rw [knd_len]; exact hr
  exact ⟨KND[r], by simp [h], by simp [List.getD, h]⟩

end Go.Proofs.YtoiilplnhecokaaDoor
