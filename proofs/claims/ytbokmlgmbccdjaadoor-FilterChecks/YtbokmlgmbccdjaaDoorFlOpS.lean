import Derived.Test.YtbokmlgmbccdjaaDoorFlOwn
import Derived.Test.YtbokmlgmbccdjaaDoorRows
import Derived.OpenShut
import Derived.ShutString
import Derived.SizedLaws
import Derived.Deep.Slices
namespace Go.Proofs.YtbokmlgmbccdjaaDoor
open Go.RowKit Go.WideShapes
set_option linter.unusedVariables false
set_option linter.unusedSimpArgs false

theorem mem_weights {H : Type} {P : Program} {e : TypeId} {n : Nat} : ∀ {l : List (DataW H)} {d : DataW H}, d ∈ l → n ∈ d.weights P e → n ∈ DataW.weightsAll P e l
  | x :: l, d, hd, hn => by
    rw [DataW.weightsAll, List.mem_append]
    rcases List.mem_cons.1 hd with rfl | hd
    · exact Or.inl hn
    · exact Or.inr (mem_weights hd hn)
/-- Nothing that it reads is greater than the form's reach. -/
abbrev Wt {H : Type} (t : TypeId) (d : DataW H) : Prop := ∀ n ∈ d.weights Tryd.prog t, n ≤ reachBytes
theorem rowc_of {H : Type} {enc : TypeId × Value → H} {w : World} {base : Nat} {spare : Nat → Bool} {held : Bool} {fuel : Nat} {v : Value} {d : DataW H} {p : List MemPlace} (hw : Wt 30 d)
    (hf : DataW.trod enc Tryd.prog w base spare held fuel 30 [v] = some (d, p)) :
    ∃ a l cap, v = .slice a l.length cap ∧ Row w a l ∧ l.length ≤ 8796093021952 := by
  have e1 : Tryd.prog.cellsOf 9 = 1 := by kernel_rfl
  have hb : Tryd.prog.bytesOf 9 = 16 := by kernel_rfl
  rcases Deep.open_slice1 Tryd.underlying30 e1 hf with ⟨hcs, hx⟩ | ⟨x, len, c, m, n, V, D, Pl, hcs, _, hl, _, hm, hxd, hx⟩
  · simp at hcs
    subst hcs
    exact ⟨none, [], 0, rfl, Row.nil _ _, Nat.zero_le _⟩
  · simp at hcs
    subst hcs
    have key : ∀ i, i < len → ∃ q : ByteArray, w.cell? (x.add i) = some (.string q) := fun i hi => by
      have him : i < m := by rw [hm]; split <;> omega
      obtain ⟨h1, h2⟩ := hx i him
      obtain ⟨s, hs, _, _⟩ := DataW.trod_string Tryd.underlying9 h2
      simp at hs
      exact ⟨s, by rw [h1, hs]⟩
    obtain ⟨Q, hQ⟩ := Deep.choose_lt key
    injection hxd with hxd _
    refine ⟨some x, (List.range len).map fun i => (Q i).data.toList, c, by simp, ?_, ?_⟩
    · intro i hi
      have hi' : i < len := by simpa using hi
      have h1 := hQ i hi'
      obtain ⟨b, off, spot⟩ := x
      have hspot : spot = none := by
        have h0 := hQ 0 (by omega)
        have := World.cell?_spot h0
        simpa [Addr.add] using this
      subst hspot
      rw [add_off] at h1
      refine ⟨b, off, rfl, ?_⟩
      rw [h1]
      simp [S_of]
    · have := hw ((((List.range len).map D).length + ((List.range (m - len)).map fun j => D (len + j)).length) * 16) (by
        rw [hxd]
        simp only [DataW.weights, Tryd.underlying30, hb]
        exact List.mem_cons_self ..)
      simp only [List.length_map, List.length_range] at this ⊢
      unfold reachBytes at this
      omega
set_option maxRecDepth 100000 in
set_option maxHeartbeats 1000000 in
theorem pat_of {H : Type} {enc : TypeId × Value → H} {w : World} {base : Nat} {spare : Nat → Bool} {held : Bool} {n : Nat} {cs : List Value} {d : DataW H} {p : List MemPlace} (hw : Wt 32 d)
    (h : DataW.trod enc Tryd.prog w base spare held n 32 cs = some (d, p)) : ∃ (i f : List UInt8) (a : Option Addr) (k : Nat) (l : List (List UInt8)), cs = [.string (S i), .slice a l.length k, .string (S f)] ∧ Row w a l ∧ l.length ≤ 8796093021952 := by
  obtain ⟨xs, n', rfl, hx, hl, hxl, hfi⟩ := DataW.trod_struct Tryd.underlying32 h
  have e2 : Tryd.prog.cellsOf 32 = 3 := by kernel_rfl
  rw [e2] at hl
  match cs, hl with
  | [x0, x1, x2], _ =>
    match xs, hxl with
    | [y0, y1, y2], _ =>
      injection hx with hx _
      rw [hx] at hw
      simp only [Wt, DataW.weights, Tryd.underlying32] at hw
      have g0 := hfi 0 _ rfl
      have g1 := hfi 1 _ rfl
      have g2 := hfi 2 _ rfl
      have z0 : Tryd.prog.cellsOf 9 = 1 := by kernel_rfl
      have z1 : Tryd.prog.cellsOf 30 = 1 := by kernel_rfl
      simp [z0, z1] at g0
      simp [z0, z1] at g1
      simp [z0, z1] at g2
      obtain ⟨v0, k0, q0, _⟩ := DataW.trod_string Tryd.underlying9 g0
      obtain ⟨aa, al, ac, k1, hA, bA⟩ := rowc_of (d := y1.1) (p := y1.2) (fun n hn => hw n (DataW.weights_mem_each (j := 1) (t := 30) (d := y1.1) rfl rfl n hn)) g1
      obtain ⟨v2, k2, q2, _⟩ := DataW.trod_string Tryd.underlying9 g2
      simp at k0 k2
      exact ⟨v0.data.toList, v2.data.toList, aa, ac, al, by rw [k0, k1, k2]; simp [S_of], hA, bA⟩
set_option maxRecDepth 100000 in
set_option maxHeartbeats 1000000 in
theorem nod_of {H : Type} {enc : TypeId × Value → H} {w : World} {base : Nat} {spare : Nat → Bool} {held : Bool} {n : Nat} {cs : List Value} {d : DataW H} {p : List MemPlace} (hw : Wt 34 d)
    (h : DataW.trod enc Tryd.prog w base spare held n 34 cs = some (d, p)) : ∃ x : Nod, cs = nV x ∧ Row w x.a x.l ∧ x.l.length ≤ 8796093021952 ∧ x.desc.length ≤ 140737488351232 ∧ x.rule.length ≤ 140737488351232 := by
  obtain ⟨xs, n', rfl, hx, hl, hxl, hfi⟩ := DataW.trod_struct Tryd.underlying34 h
  have e2 : Tryd.prog.cellsOf 34 = 9 := by kernel_rfl
  rw [e2] at hl
  match cs, hl with
  | [x0, x1, x2, x3, x4, x5, x6, x7, x8], _ =>
    match xs, hxl with
    | [y0, y1, y2, y3, y4, y5, y6], _ =>
      injection hx with hx _
      rw [hx] at hw
      simp only [Wt, DataW.weights, Tryd.underlying34] at hw
      have g0 := hfi 0 _ rfl
      have g1 := hfi 1 _ rfl
      have g2 := hfi 2 _ rfl
      have g3 := hfi 3 _ rfl
      have g4 := hfi 4 _ rfl
      have g5 := hfi 5 _ rfl
      have g6 := hfi 6 _ rfl
      have z0 : Tryd.prog.cellsOf 3 = 1 := by kernel_rfl
      have z1 : Tryd.prog.cellsOf 29 = 1 := by kernel_rfl
      have z2 : Tryd.prog.cellsOf 9 = 1 := by kernel_rfl
      have z3 : Tryd.prog.cellsOf 32 = 3 := by kernel_rfl
      have z4 : Tryd.prog.cellsOf 4 = 1 := by kernel_rfl
      simp [z0, z1, z2, z3, z4] at g0
      simp [z0, z1, z2, z3, z4] at g1
      simp [z0, z1, z2, z3, z4] at g2
      simp [z0, z1, z2, z3, z4] at g3
      simp [z0, z1, z2, z3, z4] at g4
      simp [z0, z1, z2, z3, z4] at g5
      simp [z0, z1, z2, z3, z4] at g6
      obtain ⟨v0, k0, _⟩ := DataW.trod_int Tryd.underlying3 g0
      obtain ⟨v1, k1, _⟩ := DataW.trod_int Tryd.underlying29 g1
      obtain ⟨v2, k2, q2, _⟩ := DataW.trod_string Tryd.underlying9 g2
      obtain ⟨v3, k3, q3, _⟩ := DataW.trod_string Tryd.underlying9 g3
      obtain ⟨pi, pf, aa, ac, al, k4, hA, bA⟩ := pat_of (d := y4.1) (p := y4.2) (fun n hn => hw n (DataW.weights_mem_each (j := 4) (t := 32) (d := y4.1) rfl rfl n hn)) g4
      obtain ⟨v5, k5, q5, _⟩ := DataW.trod_string Tryd.underlying9 g5
      obtain ⟨v6, k6, _⟩ := DataW.trod_bool Tryd.underlying4 g6
      simp at k0 k1 k2 k3 k4 k5 k6
      obtain ⟨k4, k7, k8⟩ := k4
      have s2 : v2.data.toList.length ≤ 140737488351232 := hw _ (DataW.weights_mem_each (j := 2) (t := 9) (d := y2.1) rfl rfl _ (by rw [q2]; simp [DataW.weights]))
      have s5 : v5.data.toList.length ≤ 140737488351232 := hw _ (DataW.weights_mem_each (j := 5) (t := 9) (d := y5.1) rfl rfl _ (by rw [q5]; simp [DataW.weights]))
      refine ⟨⟨v0, v1, v2.data.toList, v3.data.toList, pi, aa, ac, al, pf, v5.data.toList, v6⟩, ?_, hA, bA, s2, s5⟩
      rw [k0, k1, k2, k3, k4, k5, k6, k7, k8]
      simp [nV, S_of]
theorem nods_of {H : Type} {enc : TypeId × Value → H} {w : World} {base : Nat} {spare : Nat → Bool} {held : Bool} {fuel : Nat} {v : Value} {d : DataW H} {p : List MemPlace} (hw : Wt 23 d)
    (hf : DataW.trod enc Tryd.prog w base spare held fuel 23 [v] = some (d, p)) : ∃ a xs cap, v = .slice a xs.length cap ∧ FRow w a xs ∧ xs.length ≤ 1099511627744 ∧ (∀ x ∈ xs, x.l.length ≤ 8796093021952 ∧ x.desc.length ≤ 140737488351232 ∧ x.rule.length ≤ 140737488351232) ∧ xs.length ≤ cap := by
  have e2 : Tryd.prog.cellsOf 34 = 9 := by kernel_rfl
  have hb : Tryd.prog.bytesOf 34 = 128 := by kernel_rfl
  rcases Deep.open_slice Tryd.underlying23 hf with ⟨hcs, hx⟩ | ⟨x, l, c, m, n, D, Pl, hcs, _, hl, _, hm, hxd, hx⟩
  · simp at hcs
    subst hcs
    exact ⟨none, [], 0, rfl, FRow.nil _ _, Nat.zero_le _, fun x hx => by simp at hx, Nat.le_refl _⟩
  · simp at hcs
    subst hcs
    rw [e2] at hx
    injection hxd with hxd _
    have key : ∀ i, i < l → ∃ q : Nod, (∀ j, j < 9 → w.cell? ((x.add (i * 9)).add j) = (nV q)[j]?) ∧ Row w q.a q.l ∧ q.l.length ≤ 8796093021952 ∧ q.desc.length ≤ 140737488351232 ∧ q.rule.length ≤ 140737488351232 := fun i hi => by
      have him : i < m := by rw [hm]; split <;> omega
      obtain ⟨cs', h1, h2⟩ := hx i him
      obtain ⟨q, rfl, hr⟩ := nod_of (fun n' hn' => hw n' (by
        rw [hxd]
        simp only [DataW.weights, Tryd.underlying23]
        exact List.mem_cons_of_mem _ (List.mem_append.2 (Or.inl (mem_weights (List.mem_map.2 ⟨i, List.mem_range.2 hi, rfl⟩) hn'))))) h2
      obtain ⟨_, _, h3⟩ := World.cells?_some h1
      exact ⟨q, h3, hr⟩
    haveI : Inhabited Nod := ⟨⟨0, 0, [], [], [], none, 0, [], [], [], false⟩⟩
    obtain ⟨Q, hQ⟩ := Deep.choose_lt key
    have hsz := hw ((((List.range l).map D).length + ((List.range (m - l)).map fun j => D (l + j)).length) * 128) (by
      rw [hxd]
      simp only [DataW.weights, Tryd.underlying23, hb]
      exact List.mem_cons_self ..)
    simp only [List.length_map, List.length_range] at hsz
    unfold reachBytes at hsz
    refine ⟨some x, (List.range l).map Q, c, by simp, fun i hi => ?_, by simp; omega, fun z hz => ?_, by simpa using hl⟩
    · have hi' : i < l := by simpa using hi
      obtain ⟨h0, h3, _⟩ := hQ i hi'
      obtain ⟨b, off, spot⟩ := x
      have hspot : spot = none := by
        have h0 := (hQ 0 (by omega)).1 0 (by omega)
        have := World.cell?_spot (show _ = some _ from h0)
        simpa [Addr.add] using this
      subst hspot
      have e : ((List.range l).map Q)[i] = Q i := by simp
      rw [e]
      refine ⟨⟨b, off, rfl, fun j hj => ?_⟩, h3⟩
      have := h0 j hj
      rw [add_off, add_off] at this
      exact this
    · obtain ⟨i, hi, rfl⟩ := List.mem_map.1 hz
      have hi' : i < l := by simpa using hi
      obtain ⟨_, _, h1, h5, h6⟩ := hQ i hi'
      exact ⟨h1, h5, h6⟩
end Go.Proofs.YtbokmlgmbccdjaaDoor
