import Derived.Test.YtnjodplnbfmjeaaGreatDoorMtTxW
import Derived.Test.YtnjodplnbfmjeaaGreatDoorRows
import Derived.OpenShut
import Derived.Deep.Slices
import Derived.MakeChecks
import Derived.LaidSub
import Derived.Stop.LaidErr
import Derived.Lib.LaidTab
namespace Go.Proofs.YtnjodplnbfmjeaaGreatDoor
namespace Tc
open Go.RowKit Go.WideShapes Go.ChangeShapes
open Mt
set_option linter.unusedVariables false
set_option maxRecDepth 100000

theorem wfI {n : Int} (h : (Lit.int .i64 n).wf = true) : I64 n := by
  unfold I64
  simp [Lit.wf, IntKind.min, IntKind.max, IntKind.signed, IntKind.bits] at h
  omega
theorem wh_of {H : Type} {enc : TypeId × Value → H} {w : World} {base : Nat} {spare : Nat → Bool} {held : Bool} {r : Reach} {b0 : Nat} {v : Value} {d : DataW H} {p : List MemPlace}
    (hval : Value.okWide Tryz.prog w r b0 23 v) (h : DataW.Trod enc Tryz.prog w base spare held 23 v d p) : ∃ y mo dd m z : Int, v = .agg #[.int .i64 y, .int .i64 mo, .int .i64 dd, .int .i64 m, .int .i64 z] ∧ I64 y ∧ I64 mo ∧ I64 dd ∧ I64 m ∧ I64 z := by
  obtain ⟨cs, rfl, hsz⟩ := okWide_struct Tryz.underlying23 hval
  obtain ⟨fuel, hf⟩ := h
  obtain ⟨xs, n, rfl, hx, hl, hxl, hfi⟩ := DataW.trod_struct Tryz.underlying23 hf
  have e3 : Tryz.prog.cellsOf 23 = 5 := by kernel_rfl
  rw [e3] at hsz
  obtain ⟨l, rfl⟩ : ∃ l : List Value, cs = l.toArray := ⟨cs.toList, by simp⟩
  have hl3 : l.length = 5 := by simpa using hsz
  match l, hl3 with
  | [x0, x1, x2, x3, x4], _ =>
    match xs, hxl with
    | [y0, y1, y2, y3, y4], _ =>
      have g0 := hfi 0 _ rfl
      have g1 := hfi 1 _ rfl
      have g2 := hfi 2 _ rfl
      have g3 := hfi 3 _ rfl
      have g4 := hfi 4 _ rfl
      have z0 : Tryz.prog.cellsOf 3 = 1 := by kernel_rfl
      simp [Value.cells, z0] at g0
      simp [Value.cells, z0] at g1
      simp [Value.cells, z0] at g2
      simp [Value.cells, z0] at g3
      simp [Value.cells, z0] at g4
      obtain ⟨n0, h0, _, w0⟩ := DataW.trod_int Tryz.underlying3 g0
      obtain ⟨n1, h1, _, w1⟩ := DataW.trod_int Tryz.underlying3 g1
      obtain ⟨n2, h2, _, w2⟩ := DataW.trod_int Tryz.underlying3 g2
      obtain ⟨n3, h3, _, w3⟩ := DataW.trod_int Tryz.underlying3 g3
      obtain ⟨n4, h4, _, w4⟩ := DataW.trod_int Tryz.underlying3 g4
      simp at h0 h1 h2 h3 h4
      exact ⟨n0, n1, n2, n3, n4, by rw [h0, h1, h2, h3, h4], wfI w0, wfI w1, wfI w2, wfI w3, wfI w4⟩
theorem pow_tab : (Rows.laid_internal_strconv_uint64pow10 : DataW Unit) = Lib.tabData .u64 Lib.pow10Tab := by kernel_rfl
theorem laid_times {W : World} (hL : laidMetH Tryz.prog Rows.matchTimesRow.laid W) : TbW W := by
  have h : laidMet Tryz.prog Rows.matchTimesRow.laid W := by
    have e := Go.MakeChecks.laidMetH_plain Tryz.prog Rows.matchTimesRow.laid W (by kernel_rfl)
    rw [← e]
    exact hL
  have h3 := h.tail.tail
  have h4 : ∃ rest, laidMet Tryz.prog (("internal/strconv.uint64pow10", Rows.laid_internal_strconv_uint64pow10) :: rest) W := ⟨_, h3⟩
  obtain ⟨rest, h5⟩ := h4
  rw [pow_tab] at h5
  exact Lib.tabIs_of_head (g := 15) (t := 262) (e := 163) (n := 20) (by kernel_rfl) (by kernel_rfl) (by kernel_rfl) (by kernel_rfl) (by kernel_rfl) (by kernel_rfl) h5
end Tc
end Go.Proofs.YtnjodplnbfmjeaaGreatDoor
