import Derived.Test.YtekaedlonebipaaElRow
import Derived.Test.YtekaedlonebipaaRows
import Derived.OpenShut
import Derived.SizedLaws
import Derived.Deep.Slices
namespace Go.Proofs.Ytekaedlonebipaa
open Go.RowKit Go.WideShapes
set_option linter.unusedVariables false

theorem int_range (v : Int) (h : (Lit.int .i64 v).wf = true) : -9223372036854775808 ≤ v ∧ v ≤ 9223372036854775807 := by
  have h' : (decide (IntKind.i64.min ≤ v) && decide (v ≤ IntKind.i64.max)) = true := h
  rw [Bool.and_eq_true] at h'
  have h1 := of_decide_eq_true h'.1
  have h2 := of_decide_eq_true h'.2
  have e1 : IntKind.i64.min = -9223372036854775808 := by decide
  have e2 : IntKind.i64.max = 9223372036854775807 := by decide
  omega
set_option maxRecDepth 100000 in
theorem ints_of {H : Type} {enc : TypeId × Value → H} {w : World} {base : Nat} {spare : Nat → Bool} {held : Bool} {a : Option Addr} {l c : Nat} {d : DataW H} {p : List MemPlace}
    (hw : ∀ n ∈ d.weights Try.prog 22, n ≤ reachBytes) (h : DataW.Trod enc Try.prog w base spare held 22 (.slice a l c) d p) :
    ∃ L : List Int, l = L.length ∧ NRow w a L ∧ L.length * 8 ≤ 140737488351232 ∧ L.length ≤ c := by
  obtain ⟨fuel, hf⟩ := h
  have hb : Try.prog.bytesOf 23 = 8 := by kernel_rfl
  have hc1 : Try.prog.cellsOf 23 = 1 := by kernel_rfl
  rcases Deep.open_slice1 Try.underlying22 hc1 hf with ⟨hcs, hx⟩ | ⟨x, l', c', m, n, V, D, Pl, hcs, _, hl, _, hm, hxd, hx⟩
  · simp [Value.cells] at hcs
    obtain ⟨rfl, rfl, rfl⟩ := hcs
    exact ⟨[], rfl, NRow.nil _ _, by decide, Nat.le_refl _⟩
  · simp [Value.cells] at hcs
    obtain ⟨rfl, rfl, rfl⟩ := hcs
    injection hxd with hxd _
    have key : ∀ i, i < l → ∃ q : Int, w.cell? (x.add i) = some (.int .i64 q) := fun i hi => by
      have him : i < m := by rw [hm]; split <;> omega
      obtain ⟨h1, h2⟩ := hx i him
      obtain ⟨v, hv, _, _⟩ := DataW.trod_int Try.underlying23 h2
      simp at hv
      exact ⟨v, by rw [h1, hv]⟩
    obtain ⟨Q, hQ⟩ := Deep.choose_lt key
    refine ⟨(List.range l).map Q, by simp, fun i hi => ?_, ?_, by simpa using hl⟩
    · have hi' : i < l := by simpa using hi
      obtain ⟨b, off, spot⟩ := x
      have hspot : spot = none := by
        have := World.cell?_spot (hQ 0 (by omega))
        simpa [Addr.add] using this
      subst hspot
      refine ⟨b, off, rfl, ?_⟩
      have h0 := hQ i hi'
      rw [add_off] at h0
      rw [h0]
      simp
    · have := hw ((((List.range l).map D).length + ((List.range (m - l)).map fun j => D (l + j)).length) * 8) (by
        rw [hxd]
        simp only [DataW.weights, Try.underlying22, hb]
        exact List.mem_cons_self ..)
      have e : reachBytes ≤ 140737488351232 := by decide
      simp at this ⊢
      omega
end Go.Proofs.Ytekaedlonebipaa
