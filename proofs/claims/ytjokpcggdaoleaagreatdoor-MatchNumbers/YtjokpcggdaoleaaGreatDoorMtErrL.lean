import Derived.Test.YtjokpcggdaoleaaGreatDoorMtIntB
import Derived.Stop.LaidErr
import Derived.MakeChecks
import Derived.LaidSub
namespace Go.Proofs.YtjokpcggdaoleaaGreatDoor
open Go.RowKit Go.ChangeShapes
set_option linter.unusedVariables false

/-- What a row's listed sentinel at the head of the list says of its cell: an interface value. -/
theorem errV_head {nm : String} {d : DataW Unit} {r : List (String × DataW Unit)} {W : World} (h : laidMet Tryz.prog (("strconv.ErrRange", .iface nm d) :: r) W) : ∃ ev, IsI ev ∧ ErrV ev W := by
  obtain ⟨ps, ⟨g0, t0, cs0, f0, p0, q0, hg0, ht0, hv0, hd0, _, e0⟩, _, hrows⟩ := h
  have hg : Tryz.prog.globalNamed "strconv.ErrRange" = some 10 := by kernel_rfl
  obtain rfl := Option.some.inj (hg.symm.trans hg0)
  have ht : (Tryz.prog.globals[10]?).map (·.type) = some 94 := by kernel_rfl
  obtain rfl := Option.some.inj (ht.symm.trans ht0)
  obtain ⟨l0⟩ := cs0
  obtain ⟨f1, u, v, rfl, hn, h1⟩ := iface_of_trod Tryz.underlying94 hd0
  exact ⟨.iface u v, .inr ⟨u, v, rfl⟩, by unfold ErrV; simpa using World.var?_cell hg0 hv0 0⟩
theorem errV_long {W : World} (hL : laidMetH Tryz.prog Rows.matchLongRow.laid W) : ∃ ev, IsI ev ∧ ErrV ev W := by
  have h : laidMet Tryz.prog Rows.matchLongRow.laid W := by
    have e := Go.MakeChecks.laidMetH_plain Tryz.prog Rows.matchLongRow.laid W (by kernel_rfl)
    rw [← e]
    exact hL
  exact errV_head h.tail.tail.tail.tail
end Go.Proofs.YtjokpcggdaoleaaGreatDoor
