import Derived.Test.YteloiehknhapfaaBJoinLaw
import Derived.OpenShut
namespace Go.Proofs.Yteloiehknhapfaa
open Go.RowKit Go.WideShapes

theorem isElem_of {H : Type} {enc : TypeId × Value → H} {w : World} {base : Nat} {spare : Nat → Bool} {held : Bool} {r : Reach} {b0 : Nat} {v : Value} {d : DataW H} {p : List MemPlace}
    (hval : Value.okWide Try.prog w r b0 35 v) (h : DataW.Trod enc Try.prog w base spare held 35 v d p) : ∃ c m t s, v = elV c m t s := by
  obtain ⟨cs, rfl, hsz⟩ := okWide_struct Try.underlying35 hval
  obtain ⟨fuel, hf⟩ := h
  obtain ⟨xs, n, rfl, hx, hl, hxl, hfi⟩ := DataW.trod_struct Try.underlying35 hf
  have e4 : Try.prog.cellsOf 35 = 4 := by kernel_rfl
  rw [e4] at hsz
  obtain ⟨l, rfl⟩ : ∃ l : List Value, cs = l.toArray := ⟨cs.toList, by simp⟩
  have hl4 : l.length = 4 := by simpa using hsz
  match l, hl4 with
  | [x0, x1, x2, x3], _ =>
    match xs, hxl with
    | [y0, y1, y2, y3], _ =>
      have g0 := hfi 0 _ rfl
      have g1 := hfi 1 _ rfl
      have g2 := hfi 2 _ rfl
      have g3 := hfi 3 _ rfl
      have z0 : Try.prog.cellsOf 29 = 1 := by kernel_rfl
      have z1 : Try.prog.cellsOf 4 = 1 := by kernel_rfl
      have z2 : Try.prog.cellsOf 3 = 1 := by kernel_rfl
      have z3 : Try.prog.cellsOf 9 = 1 := by kernel_rfl
      simp [Value.cells, z0] at g0
      simp [Value.cells, z1] at g1
      simp [Value.cells, z2] at g2
      simp [Value.cells, z3] at g3
      obtain ⟨c, hc, _⟩ := DataW.trod_int Try.underlying29 g0
      obtain ⟨m, hm, _⟩ := DataW.trod_bool Try.underlying4 g1
      obtain ⟨t, ht, _⟩ := DataW.trod_int Try.underlying3 g2
      obtain ⟨s, hs, _⟩ := DataW.trod_string Try.underlying9 g3
      simp at hc hm ht hs
      exact ⟨c, m, t, s, by rw [hc, hm, ht, hs]⟩
end Go.Proofs.Yteloiehknhapfaa
