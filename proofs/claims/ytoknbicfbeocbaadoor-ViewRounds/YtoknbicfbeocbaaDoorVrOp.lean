import Derived.Test.YtoknbicfbeocbaaDoorVX3
import Derived.Test.YtoknbicfbeocbaaDoorRows
import Derived.OpenShut
import Derived.ShutString
import Derived.SizedLaws
import Derived.Deep.Slices
namespace Go.Proofs.YtoknbicfbeocbaaDoor
namespace Vr
open Go.RowKit Go.WideShapes
set_option linter.unusedVariables false
set_option linter.unusedSimpArgs false

theorem mem_weights {H : Type} {P : Program} {e : TypeId} {n : Nat} : ∀ {l : List (DataW H)} {d : DataW H}, d ∈ l → n ∈ d.weights P e → n ∈ DataW.weightsAll P e l
  | x :: l, d, hd, hn => by
    rw [DataW.weightsAll, List.mem_append]
    rcases List.mem_cons.1 hd with rfl | hd
    · exact Or.inl hn
    · exact Or.inr (mem_weights hd hn)
/-- Nothing that it reads is greater than the form's reach. -/
abbrev Wt {H : Type} (t : TypeId) (d : DataW H) : Prop := ∀ n ∈ d.weights Tryd.prog t, n ≤ reachBytes
theorem rows_of {α : Type} (z0 : α) (V : α → List Value) (k nb : Nat) (P : α → Prop) {t ts : TypeId} (hund : Tryd.prog.underlying ts = some (.slice t)) (hcl : Tryd.prog.cellsOf t = k) (hby : Tryd.prog.bytesOf t = nb) (hk : 0 < k) (hV : ∀ x, (V x).length = k) (h0 : ∀ x, ∃ u, (V x)[0]? = some u)
    {H : Type} {enc : TypeId × Value → H} {w : World} {base : Nat} {spare : Nat → Bool} {held : Bool} {fuel : Nat} {v : Value} {d : DataW H} {p : List MemPlace} (hw : Wt ts d)
    (elem : ∀ n cs (d : DataW H) p, Wt t d → DataW.trod enc Tryd.prog w base spare held n t cs = some (d, p) → ∃ x, cs = V x ∧ P x)
    (hf : DataW.trod enc Tryd.prog w base spare held fuel ts [v] = some (d, p)) : ∃ a xs cap, v = .slice a xs.length cap ∧ GRow k V w a xs ∧ (∀ x ∈ xs, P x) ∧ xs.length * nb ≤ 140737488351232 := by
  rcases Deep.open_slice hund hf with ⟨hcs, hx⟩ | ⟨x, l, c, m, n, D, Pl, hcs, _, hl, _, hm, hxd, hx⟩
  · simp at hcs
    subst hcs
    exact ⟨none, [], 0, rfl, GRow.nil _ _ _ _, fun x hx => by simp at hx, by simp⟩
  · simp at hcs
    subst hcs
    rw [hcl] at hx
    injection hxd with hxd _
    have key : ∀ i, i < l → ∃ q : α, (∀ j, j < k → w.cell? ((x.add (i * k)).add j) = (V q)[j]?) ∧ P q := fun i hi => by
      have him : i < m := by rw [hm]; split <;> omega
      obtain ⟨cs', h1, h2⟩ := hx i him
      obtain ⟨q, rfl, hr⟩ := elem _ _ _ _ (fun n' hn' => hw n' (by
        rw [hxd]
        simp only [DataW.weights, hund]
        exact List.mem_cons_of_mem _ (List.mem_append.2 (Or.inl (mem_weights (List.mem_map.2 ⟨i, List.mem_range.2 hi, rfl⟩) hn'))))) h2
      obtain ⟨_, _, h3⟩ := World.cells?_some h1
      exact ⟨q, h3, hr⟩
    haveI : Inhabited α := ⟨z0⟩
    obtain ⟨Q, hQ⟩ := Deep.choose_lt key
    have hsz := hw ((((List.range l).map D).length + ((List.range (m - l)).map fun j => D (l + j)).length) * nb) (by
      rw [hxd]
      simp only [DataW.weights, hund, hby]
      exact List.mem_cons_self ..)
    refine ⟨some x, (List.range l).map Q, c, by simp, fun i hi => ?_, fun z hz => ?_, ?_⟩
    · have hi' : i < l := by simpa using hi
      obtain ⟨h1, _⟩ := hQ i hi'
      obtain ⟨b, off, spot⟩ := x
      have hspot : spot = none := by
        have h2 := (hQ 0 (by omega)).1 0 hk
        obtain ⟨u, hu⟩ := h0 (Q 0)
        rw [hu] at h2
        have := World.cell?_spot h2
        simpa [Addr.add] using this
      subst hspot
      have e : ((List.range l).map Q)[i] = Q i := by simp
      rw [e]
      refine ⟨b, off, rfl, fun j hj => ?_⟩
      have := h1 j hj
      rw [add_o, add_o] at this
      exact this
    · obtain ⟨i, hi, rfl⟩ := List.mem_map.1 hz
      have hi' : i < l := by simpa using hi
      exact (hQ i hi').2
    · simp only [List.length_map, List.length_range] at hsz ⊢
      unfold reachBytes at hsz
      exact Nat.le_trans (Nat.mul_le_mul_right nb (Nat.le_add_right l (m - l))) hsz
set_option maxRecDepth 100000 in
set_option maxHeartbeats 1000000 in
theorem sk_of {H : Type} {enc : TypeId × Value → H} {w : World} {base : Nat} {spare : Nat → Bool} {held : Bool} {n : Nat} {cs : List Value} {d : DataW H} {p : List MemPlace}
    (h : DataW.trod enc Tryd.prog w base spare held n 25 cs = some (d, p)) : ∃ x : Ky, cs = kyV x := by
  obtain ⟨xs, n', rfl, hx, hl, hxl, hfi⟩ := DataW.trod_struct Tryd.underlying25 h
  have e2 : Tryd.prog.cellsOf 25 = 3 := by kernel_rfl
  rw [e2] at hl
  match cs, hl with
  | [x0, x1, x2], _ =>
    match xs, hxl with
    | [y0, y1, y2], _ =>
      have g0 := hfi 0 _ rfl
      have g1 := hfi 1 _ rfl
      have g2 := hfi 2 _ rfl
      have z0 : Tryd.prog.cellsOf 9 = 1 := by kernel_rfl
      have z1 : Tryd.prog.cellsOf 4 = 1 := by kernel_rfl
      simp [z0, z1] at g0
      simp [z0, z1] at g1
      simp [z0, z1] at g2
      obtain ⟨s0, k0, _, _⟩ := DataW.trod_string Tryd.underlying9 g0
      obtain ⟨s1, k1, _, _⟩ := DataW.trod_string Tryd.underlying9 g1
      obtain ⟨b2, k2, _, _⟩ := DataW.trod_bool Tryd.underlying4 g2
      simp at k0 k1 k2
      subst k0 k1 k2
      exact ⟨(s0, s1, b2), rfl⟩
theorem keys_of {H : Type} {enc : TypeId × Value → H} {w : World} {base : Nat} {spare : Nat → Bool} {held : Bool} {fuel : Nat} {v : Value} {d : DataW H} {p : List MemPlace} (hw : Wt 22 d)
    (hf : DataW.trod enc Tryd.prog w base spare held fuel 22 [v] = some (d, p)) : ∃ a xs cap, v = .slice a xs.length cap ∧ GRow 3 kyV w a xs ∧ xs.length ≤ 9223372036854775807 := by
  obtain ⟨a, xs, c, e, h1, h2, h3⟩ := rows_of ((⟨#[]⟩, ⟨#[]⟩, false) : Ky) kyV 3 40 (fun x => True) Tryd.underlying22 (by kernel_rfl) (by kernel_rfl) (by decide) kyV_len (fun x => ⟨_, rfl⟩) hw (fun n cs d p hd h => by obtain ⟨x, e⟩ := sk_of h; exact ⟨x, e, trivial⟩) hf
  exact ⟨a, xs, c, e, h1, by omega⟩
end Vr
end Go.Proofs.YtoknbicfbeocbaaDoor
