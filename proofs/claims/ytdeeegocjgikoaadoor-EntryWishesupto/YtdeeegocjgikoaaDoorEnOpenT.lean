import Derived.Test.YtdeeegocjgikoaaDoorEnOpen
namespace Go.Proofs.YtdeeegocjgikoaaDoor
open Go.RowKit Go.WideShapes
set_option linter.unusedVariables false
set_option linter.unusedSimpArgs false

theorem bulk_at {H : Type} (D : Nat → DataW H) (l i : Nat) (hi : i < l) : Rows.uptoBulk (D i) ≤ Rows.uptoBulkAll ((List.range l).map D) := by
  have h3 : (List.range l).map D = ((List.range l).map D).take i ++ D i :: ((List.range l).map D).drop (i + 1) := by
    have h4 := List.take_append_drop i ((List.range l).map D)
    rw [List.drop_eq_getElem_cons (by simpa using hi)] at h4
    simpa using h4.symm
  rw [h3, bulk_app]
  simp only [Rows.uptoBulkAll]
  omega
set_option maxRecDepth 100000 in
theorem texts_of {H : Type} {enc : TypeId × Value → H} {w : World} {base : Nat} {spare : Nat → Bool} {held : Bool} {a : Option Addr} {len cap : Nat} {d : DataW H} {p : List MemPlace}
    (h : DataW.Trod enc Tryd.prog w base spare held 22 (.slice a len cap) d p) :
    ∃ l, len = l.length ∧ Row w a l ∧ l.length ≤ Rows.uptoBulk d ∧ ∀ t ∈ l, t.length ≤ Rows.uptoBulk d := by
  obtain ⟨fuel, hf⟩ := h
  have e1 : Tryd.prog.cellsOf 9 = 1 := by kernel_rfl
  rcases Deep.open_slice1 Tryd.underlying22 e1 hf with ⟨hcs, hx⟩ | ⟨x, l, c, m, n, V, D, Pl, hcs, _, hl, _, hm, hxd, hx⟩
  · simp [Value.cells] at hcs
    obtain ⟨_, rfl, rfl⟩ := hcs
    exact ⟨[], rfl, Row.nil _ _, Nat.zero_le _, fun t ht => by cases ht⟩
  · simp [Value.cells] at hcs
    obtain ⟨rfl, rfl, rfl⟩ := hcs
    have key : ∀ i, i < len → ∃ q : ByteArray, w.cell? (x.add i) = some (.string q) ∧ Rows.uptoBulk (D i) = q.size + 1 := fun i hi => by
      have him : i < m := by rw [hm]; split <;> omega
      obtain ⟨h1, h2⟩ := hx i him
      obtain ⟨s, hs, hs2, _⟩ := DataW.trod_string Tryd.underlying9 h2
      simp at hs
      refine ⟨s, by rw [h1, hs], ?_⟩
      replace hs2 := congrArg Prod.fst hs2
      simp only at hs2
      rw [hs2]
      simp [Rows.uptoBulk]
    obtain ⟨Q, hQ⟩ := Deep.choose_lt key
    injection hxd with hxd _
    have hle : Rows.uptoBulkAll ((List.range len).map D) ≤ Rows.uptoBulk d := by
      rw [hxd]
      simp only [Rows.uptoBulk]
      omega
    refine ⟨(List.range len).map fun i => (Q i).data.toList, by simp, ?_, ?_, fun t ht => ?_⟩
    · intro i hi
      have hi' : i < len := by simpa using hi
      have h1 := (hQ i hi').1
      obtain ⟨b, off, spot⟩ := x
      have hspot : spot = none := by
        have h0 := (hQ 0 (by omega)).1
        have := World.cell?_spot h0
        simpa [Addr.add] using this
      subst hspot
      rw [add_off] at h1
      refine ⟨b, off, rfl, ?_⟩
      rw [h1]
      simp [S_of]
    · have := bulk_len ((List.range len).map D)
      rw [List.length_map, List.length_range] at this
      simp only [List.length_map, List.length_range]
      omega
    · obtain ⟨i, hi, rfl⟩ := List.mem_map.1 ht
      have hi' : i < len := by simpa using hi
      have h1 := (hQ i hi').2
      have h2 := bulk_at D len i hi'
      rw [size_l]
      omega
end Go.Proofs.YtdeeegocjgikoaaDoor
