import Derived.Test.YtofghgggllfafaaDoorFlOwn
import Derived.OpenShut
import Derived.ShutString
import Derived.Deep.Slices
namespace Go.Proofs.YtofghgggllfafaaDoor
open Go.RowKit Go.WideShapes
set_option linter.unusedVariables false
set_option linter.unusedSimpArgs false

theorem bulk_len {H : Type} : ∀ es : List (DataW H), es.length ≤ Rows.uptoBulkAll es
  | [] => Nat.le_refl _
  | d :: es => by
    have h1 := bulk_len es
    have h2 : 1 ≤ Rows.uptoBulk d := by
      cases d <;> first | (simp [Rows.uptoBulk]; done) | (rename_i x; cases x <;> simp [Rows.uptoBulk])
    simp only [List.length_cons, Rows.uptoBulkAll]
    omega
theorem bulk_app {H : Type} (a b : List (DataW H)) : Rows.uptoBulkAll (a ++ b) = Rows.uptoBulkAll a + Rows.uptoBulkAll b := by
  induction a with
  | nil => simp [Rows.uptoBulkAll]
  | cons d a ih => simp only [List.cons_append, Rows.uptoBulkAll, ih]; omega

theorem rowc_of {H : Type} {enc : TypeId × Value → H} {w : World} {base : Nat} {spare : Nat → Bool} {held : Bool} {fuel : Nat} {v : Value} {d : DataW H} {p : List MemPlace}
    (hf : DataW.trod enc Tryd.prog w base spare held fuel 34 [v] = some (d, p)) :
    ∃ a l cap, v = .slice a l.length cap ∧ Row w a l ∧ l.length ≤ Rows.uptoBulk d := by
  have e1 : Tryd.prog.cellsOf 9 = 1 := by kernel_rfl
  rcases Deep.open_slice1 Tryd.underlying34 e1 hf with ⟨hcs, hx⟩ | ⟨x, len, c, m, n, V, D, Pl, hcs, _, hl, _, hm, hxd, hx⟩
  · simp at hcs
    subst hcs
    exact ⟨none, [], 0, rfl, Row.nil _ _, Nat.zero_le _⟩
  · simp at hcs
    subst hcs
    have key : ∀ i, i < len → ∃ q : ByteArray, w.cell? (x.add i) = some (.string q) := fun i hi => by
      have him : i < m := by rw [hm]; split <;> omega
      obtain ⟨h1, h2⟩ := hx i him
      obtain ⟨s, hs, _, _⟩ := DataW.trod_string Tryd.underlying9 h2
      simp at hs
      exact ⟨s, by rw [h1, hs]⟩
    obtain ⟨Q, hQ⟩ := Deep.choose_lt key
    injection hxd with hxd _
    refine ⟨some x, (List.range len).map fun i => (Q i).data.toList, c, by simp, ?_, ?_⟩
    · intro i hi
      have hi' : i < len := by simpa using hi
      have h1 := hQ i hi'
      obtain ⟨b, off, spot⟩ := x
      have hspot : spot = none := by
        have h0 := hQ 0 (by omega)
        have := World.cell?_spot h0
        simpa [Addr.add] using this
      subst hspot
      rw [add_off] at h1
      refine ⟨b, off, rfl, ?_⟩
      rw [h1]
      simp [S_of]
    · rw [hxd]
      have := bulk_len ((List.range len).map D)
      rw [List.length_map, List.length_range] at this
      simp only [Rows.uptoBulk, List.length_map, List.length_range]
      omega

set_option maxRecDepth 100000 in
theorem pat_of {H : Type} {enc : TypeId × Value → H} {w : World} {base : Nat} {spare : Nat → Bool} {held : Bool} {n : Nat} {cs : List Value} {d : DataW H} {p : List MemPlace}
    (h : DataW.trod enc Tryd.prog w base spare held n 36 cs = some (d, p)) : ∃ (i f : List UInt8) (a : Option Addr) (k : Nat) (l : List (List UInt8)), cs = [.string (S i), .slice a l.length k, .string (S f)] ∧ Row w a l ∧ l.length + 1 ≤ Rows.uptoBulk d ∧ i.length ≤ Rows.uptoBulk d ∧ f.length ≤ Rows.uptoBulk d := by
  obtain ⟨xs, n', rfl, hx, hl, hxl, hfi⟩ := DataW.trod_struct Tryd.underlying36 h
  have e2 : Tryd.prog.cellsOf 36 = 3 := by kernel_rfl
  rw [e2] at hl
  match cs, hl with
  | [x0, x1, x2], _ =>
    match xs, hxl with
    | [y0, y1, y2], _ =>
      have g0 := hfi 0 _ rfl
      have g1 := hfi 1 _ rfl
      have g2 := hfi 2 _ rfl
      have z1 : Tryd.prog.cellsOf 9 = 1 := by kernel_rfl
      have z2 : Tryd.prog.cellsOf 34 = 1 := by kernel_rfl
      simp [z1] at g0
      simp [z1, z2] at g1
      simp [z1, z2] at g2
      obtain ⟨f, hf, hf2, _⟩ := DataW.trod_string Tryd.underlying9 g0
      obtain ⟨s, hs, hs2, _⟩ := DataW.trod_string Tryd.underlying9 g2
      obtain ⟨a, l, cap, hv, hr, hb⟩ := rowc_of (d := y1.1) (p := y1.2) g1
      simp at hf hs
      refine ⟨f.data.toList, s.data.toList, a, cap, l, ?_, hr, ?_⟩
      · rw [hf, hs, hv]
        simp [S_of]
      · injection hx with hx _
        rw [hx, hs2, hf2]
        simp [Rows.uptoBulk, Rows.uptoBulkAll]
        omega

set_option maxRecDepth 100000 in
theorem nod_of {H : Type} {enc : TypeId × Value → H} {w : World} {base : Nat} {spare : Nat → Bool} {held : Bool} {n : Nat} {cs : List Value} {d : DataW H} {p : List MemPlace}
    (h : DataW.trod enc Tryd.prog w base spare held n 38 cs = some (d, p)) : ∃ x : Nod, cs = nV x ∧ Row w x.a x.l ∧ x.l.length + 1 ≤ Rows.uptoBulk d ∧ x.desc.length ≤ Rows.uptoBulk d ∧ x.rule.length ≤ Rows.uptoBulk d := by
  obtain ⟨xs, n', rfl, hx, hl, hxl, hfi⟩ := DataW.trod_struct Tryd.underlying38 h
  have e2 : Tryd.prog.cellsOf 38 = 9 := by kernel_rfl
  rw [e2] at hl
  match cs, hl with
  | [x0, x1, x2, x3, x4, x5, x6, x7, x8], _ =>
    match xs, hxl with
    | [y0, y1, y2, y3, y4, y5, y6], _ =>
      have g0 := hfi 0 _ rfl
      have g1 := hfi 1 _ rfl
      have g2 := hfi 2 _ rfl
      have g3 := hfi 3 _ rfl
      have g4 := hfi 4 _ rfl
      have g5 := hfi 5 _ rfl
      have g6 := hfi 6 _ rfl
      have z0 : Tryd.prog.cellsOf 3 = 1 := by kernel_rfl
      have z1 : Tryd.prog.cellsOf 29 = 1 := by kernel_rfl
      have z2 : Tryd.prog.cellsOf 9 = 1 := by kernel_rfl
      have z3 : Tryd.prog.cellsOf 36 = 3 := by kernel_rfl
      have z4 : Tryd.prog.cellsOf 4 = 1 := by kernel_rfl
      simp [z0, z1, z2, z3, z4] at g0
      simp [z0, z1, z2, z3, z4] at g1
      simp [z0, z1, z2, z3, z4] at g2
      simp [z0, z1, z2, z3, z4] at g3
      simp [z0, z1, z2, z3, z4] at g4
      simp [z0, z1, z2, z3, z4] at g5
      simp [z0, z1, z2, z3, z4] at g6
      obtain ⟨v0, k0, _⟩ := DataW.trod_int Tryd.underlying3 g0
      obtain ⟨v1, k1, _⟩ := DataW.trod_int Tryd.underlying29 g1
      obtain ⟨v2, k2, q2, _⟩ := DataW.trod_string Tryd.underlying9 g2
      obtain ⟨v3, k3, _⟩ := DataW.trod_string Tryd.underlying9 g3
      obtain ⟨i, f, a, k, l, k4, hr, hb, _⟩ := pat_of (d := y4.1) (p := y4.2) g4
      obtain ⟨v5, k5, q5, _⟩ := DataW.trod_string Tryd.underlying9 g5
      obtain ⟨v6, k6, _⟩ := DataW.trod_bool Tryd.underlying4 g6
      simp at k0 k1 k2 k3 k4 k5 k6
      obtain ⟨k4, k7, k8⟩ := k4
      refine ⟨⟨v0, v1, v2.data.toList, v3.data.toList, i, a, k, l, f, v5.data.toList, v6⟩, ?_, hr, ?_⟩
      · rw [k0, k1, k2, k3, k4, k5, k6, k7, k8]
        simp [nV, S_of]
      · injection hx with hx _
        rw [hx, q2, q5]
        simp [Rows.uptoBulk, Rows.uptoBulkAll]
        omega

theorem bulk_mem {H : Type} (D : Nat → DataW H) (l i : Nat) (hi : i < l) : Rows.uptoBulk (D i) ≤ Rows.uptoBulkAll ((List.range l).map D) := by
  have h3 : (List.range l).map D = ((List.range l).map D).take i ++ D i :: ((List.range l).map D).drop (i + 1) := by
    have h4 := List.take_append_drop i ((List.range l).map D)
    rw [List.drop_eq_getElem_cons (by simpa using hi)] at h4
    simpa using h4.symm
  rw [h3, bulk_app]
  simp only [Rows.uptoBulkAll]
  omega

theorem nods_of {H : Type} {enc : TypeId × Value → H} {w : World} {base : Nat} {spare : Nat → Bool} {held : Bool} {fuel : Nat} {v : Value} {d : DataW H} {p : List MemPlace}
    (hf : DataW.trod enc Tryd.prog w base spare held fuel 23 [v] = some (d, p)) : ∃ a xs cap, v = .slice a xs.length cap ∧ FRow w a xs ∧ xs.length ≤ Rows.uptoBulk d ∧ (∀ x ∈ xs, x.l.length ≤ Rows.uptoBulk d ∧ x.desc.length ≤ Rows.uptoBulk d ∧ x.rule.length ≤ Rows.uptoBulk d) ∧ xs.length ≤ cap := by
  have e2 : Tryd.prog.cellsOf 38 = 9 := by kernel_rfl
  rcases Deep.open_slice Tryd.underlying23 hf with ⟨hcs, hx⟩ | ⟨x, l, c, m, n, D, Pl, hcs, _, hl, _, hm, hxd, hx⟩
  · simp at hcs
    subst hcs
    exact ⟨none, [], 0, rfl, FRow.nil _ _, Nat.zero_le _, fun x hx => by simp at hx, Nat.le_refl _⟩
  · simp at hcs
    subst hcs
    rw [e2] at hx
    have key : ∀ i, i < l → ∃ q : Nod, (∀ j, j < 9 → w.cell? ((x.add (i * 9)).add j) = (nV q)[j]?) ∧ Row w q.a q.l ∧ q.l.length + 1 ≤ Rows.uptoBulk (D i) ∧ q.desc.length ≤ Rows.uptoBulk (D i) ∧ q.rule.length ≤ Rows.uptoBulk (D i) := fun i hi => by
      have him : i < m := by rw [hm]; split <;> omega
      obtain ⟨cs', h1, h2⟩ := hx i him
      obtain ⟨q, rfl, hr, hb⟩ := nod_of h2
      obtain ⟨_, _, h3⟩ := World.cells?_some h1
      refine ⟨q, fun j hj => ?_, hr, hb⟩
      match j, hj with
      | 0, hj | 1, hj | 2, hj | 3, hj | 4, hj | 5, hj | 6, hj | 7, hj | 8, hj => exact h3 _ hj
    haveI : Inhabited Nod := ⟨⟨0, 0, [], [], [], none, 0, [], [], [], false⟩⟩
    obtain ⟨Q, hQ⟩ := Deep.choose_lt key
    injection hxd with hxd _
    have hle : Rows.uptoBulkAll ((List.range l).map D) ≤ Rows.uptoBulk d := by
      rw [hxd]
      simp only [Rows.uptoBulk]
      omega
    have hln : l ≤ Rows.uptoBulk d := by
      have := bulk_len ((List.range l).map D)
      rw [List.length_map, List.length_range] at this
      omega
    refine ⟨some x, (List.range l).map Q, c, by simp, fun i hi => ?_, by simpa using hln, fun z hz => ?_, by simpa using hl⟩
    · have hi' : i < l := by simpa using hi
      obtain ⟨h0, h3, _⟩ := hQ i hi'
      obtain ⟨b, off, spot⟩ := x
      have hspot : spot = none := by
        have h0 := (hQ 0 (by omega)).1 0 (by omega)
        have := World.cell?_spot (show _ = some _ from h0)
        simpa [Addr.add] using this
      subst hspot
      have e : ((List.range l).map Q)[i] = Q i := by simp
      rw [e]
      refine ⟨⟨b, off, rfl, fun j hj => ?_⟩, h3⟩
      have := h0 j hj
      rw [add_off, add_off] at this
      exact this
    · obtain ⟨i, hi, rfl⟩ := List.mem_map.1 hz
      have hi' : i < l := by simpa using hi
      obtain ⟨_, _, h1, h5, h6⟩ := hQ i hi'
      have h2 := bulk_mem D l i hi'
      refine ⟨?_, ?_, ?_⟩ <;> omega
end Go.Proofs.YtofghgggllfafaaDoor
