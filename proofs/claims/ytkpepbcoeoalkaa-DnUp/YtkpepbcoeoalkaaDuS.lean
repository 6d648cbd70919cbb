import Derived.Test.YtkpepbcoeoalkaaDuW
import Derived.Test.YtkpepbcoeoalkaaRows
import Derived.OpenShut
import Derived.ShutString
import Derived.SizedLaws
import Derived.Deep.Slices
namespace Go.Proofs.Ytkpepbcoeoalkaa
namespace Du
open Go.RowKit Go.WideShapes
set_option linter.unusedVariables false
set_option linter.unusedSimpArgs false
set_option maxRecDepth 100000

theorem mem_weights {H : Type} {P : Program} {e : TypeId} {n : Nat} : ∀ {l : List (DataW H)} {d : DataW H}, d ∈ l → n ∈ d.weights P e → n ∈ DataW.weightsAll P e l
  | x :: l, d, hd, hn => by
    rw [DataW.weightsAll, List.mem_append]
    rcases List.mem_cons.1 hd with rfl | hd
    · exact Or.inl hn
    · exact Or.inr (mem_weights hd hn)
/-- Nothing that it reads is greater than the form's reach. -/
abbrev Wt {H : Type} (t : TypeId) (d : DataW H) : Prop := ∀ n ∈ d.weights Try.prog t, n ≤ reachBytes
theorem rows_ofW {α : Type} (z0 : α) (V : α → List Value) (k nb : Nat) (P : α → Prop) {t ts : TypeId} (hund : Try.prog.underlying ts = some (.slice t)) (hcl : Try.prog.cellsOf t = k) (hby : Try.prog.bytesOf t = nb) (hk : 0 < k) (hV : ∀ x, (V x).length = k) (h0 : ∀ x, ∃ u, (V x)[0]? = some u)
    {H : Type} {enc : TypeId × Value → H} {w : World} {base : Nat} {spare : Nat → Bool} {held : Bool} {fuel : Nat} {v : Value} {d : DataW H} {p : List MemPlace} (hw : Wt ts d)
    (elem : ∀ n cs (d : DataW H) p, Wt t d → DataW.trod enc Try.prog w base spare held n t cs = some (d, p) → ∃ x, cs = V x ∧ P x)
    (hf : DataW.trod enc Try.prog w base spare held fuel ts [v] = some (d, p)) : ∃ a xs cap, v = .slice a xs.length cap ∧ GRow k V w a xs ∧ (∀ x ∈ xs, P x) ∧ xs.length * nb ≤ 140737488351232 ∧ xs.length ≤ cap ∧ cap ≤ maxLen := by
  rcases Deep.open_slice hund hf with ⟨hcs, hx⟩ | ⟨x, l, c, m, n, D, Pl, hcs, _, hl, hcm, hm, hxd, hx⟩
  · simp at hcs
    subst hcs
    exact ⟨none, [], 0, rfl, GRow.nil _ _ _ _, fun x hx => by simp at hx, by simp, Nat.le_refl _, by unfold maxLen; omega⟩
  · simp at hcs
    subst hcs
    rw [hcl] at hx
    injection hxd with hxd _
    have key : ∀ i, i < l → ∃ q : α, (∀ j, j < k → w.cell? ((x.add (i * k)).add j) = (V q)[j]?) ∧ P q := fun i hi => by
      have him : i < m := by rw [hm]; split <;> omega
      obtain ⟨cs', h1, h2⟩ := hx i him
      obtain ⟨q, rfl, hr⟩ := elem _ _ _ _ (fun n' hn' => hw n' (by
        rw [hxd]
        simp only [DataW.weights, hund]
        exact List.mem_cons_of_mem _ (List.mem_append.2 (Or.inl (mem_weights (List.mem_map.2 ⟨i, List.mem_range.2 hi, rfl⟩) hn'))))) h2
      obtain ⟨_, _, h3⟩ := World.cells?_some h1
      exact ⟨q, h3, hr⟩
    haveI : Inhabited α := ⟨z0⟩
    obtain ⟨Q, hQ⟩ := Deep.choose_lt key
    have hsz := hw ((((List.range l).map D).length + ((List.range (m - l)).map fun j => D (l + j)).length) * nb) (by
      rw [hxd]
      simp only [DataW.weights, hund, hby]
      exact List.mem_cons_self ..)
    refine ⟨some x, (List.range l).map Q, c, by simp, fun i hi => ?_, fun z hz => ?_, ?_, by simpa using hl, hcm⟩
    · have hi' : i < l := by simpa using hi
      obtain ⟨h1, _⟩ := hQ i hi'
      obtain ⟨b, off, spot⟩ := x
      have hspot : spot = none := by
        have h2 := (hQ 0 (by omega)).1 0 hk
        obtain ⟨u, hu⟩ := h0 (Q 0)
        rw [hu] at h2
        have := World.cell?_spot h2
        simpa [Addr.add] using this
      subst hspot
      have e : ((List.range l).map Q)[i] = Q i := by simp
      rw [e]
      refine ⟨b, off, rfl, fun j hj => ?_⟩
      have := h1 j hj
      rw [add_o, add_o] at this
      exact this
    · obtain ⟨i, hi, rfl⟩ := List.mem_map.1 hz
      have hi' : i < l := by simpa using hi
      exact (hQ i hi').2
    · simp only [List.length_map, List.length_range] at hsz ⊢
      unfold reachBytes at hsz
      exact Nat.le_trans (Nat.mul_le_mul_right nb (Nat.le_add_right l (m - l))) hsz
theorem ava_ofW {H : Type} {enc : TypeId × Value → H} {w : World} {base : Nat} {spare : Nat → Bool} {held : Bool} {n : Nat} {cs : List Value} {d : DataW H} {p : List MemPlace}
    (h : DataW.trod enc Try.prog w base spare held n 38 cs = some (d, p)) : ∃ x : PR, cs = pV x ∧ True := by
  obtain ⟨x, h1, _, _⟩ := ava_of h
  exact ⟨x, h1, trivial⟩
theorem rdn_ofW {H : Type} {enc : TypeId × Value → H} {w : World} {base : Nat} {spare : Nat → Bool} {held : Bool} {n : Nat} {cs : List Value} {d : DataW H} {p : List MemPlace} (hw : Wt 36 d)
    (h : DataW.trod enc Try.prog w base spare held n 36 cs = some (d, p)) : ∃ x : PX, cs = xV x ∧ ((PRow w x.1 x.2.2 ∧ x.2.2.length ≤ x.2.1 ∧ x.2.1 ≤ maxLen) ∧ x.2.2.length ≤ 4398046510976) := by
  have e3 : Try.prog.cellsOf 38 = 2 := by kernel_rfl
  have e4 : Try.prog.bytesOf 38 = 32 := by kernel_rfl
  obtain ⟨v, rfl⟩ : ∃ v, cs = [v] := by
    rcases Deep.open_slice Try.underlying36 h with ⟨hcs, _⟩ | ⟨x, l, c, m, n, D, Pl, hcs, _⟩
    · exact ⟨_, hcs⟩
    · exact ⟨_, hcs⟩
  obtain ⟨a, l, cap, hv, hr, _, hb, hc, hm⟩ := rows_ofW (([], []) : PR) pV 2 32 (fun _ => True) Try.underlying36 e3 e4 (by decide) pV_len (fun x => ⟨_, rfl⟩) (d := d) (p := p) hw (fun n cs d p _ h => ava_ofW h) h
  exact ⟨(a, cap, l), by rw [hv]; rfl, ⟨hr, hc, hm⟩, by show l.length ≤ _; omega⟩
/-- A name that came in, of whatever size. -/
theorem dn_ofW {H : Type} {enc : TypeId × Value → H} {w : World} {base : Nat} {spare : Nat → Bool} {held : Bool} {v : Value} {d : DataW H} {p : List MemPlace} (hw : Wt 23 d)
    (hf : DataW.Trod enc Try.prog w base spare held 23 v d p) (hv1 : v.cells = #[v]) : ∃ a L cap, v = .slice a L.length cap ∧ DRow w a L ∧ L.length ≤ 5864062014634 ∧ (∀ r ∈ L, r.2.2.length ≤ 4398046510976) ∧ L.length ≤ cap := by
  obtain ⟨fuel, hf⟩ := hf
  rw [hv1] at hf
  have e3 : Try.prog.cellsOf 36 = 1 := by kernel_rfl
  have e4 : Try.prog.bytesOf 36 = 24 := by kernel_rfl
  obtain ⟨a, L, cap, hv, hr, hP, hb, hc, hm⟩ := rows_ofW ((none, 0, []) : PX) xV 1 24 (fun x => (PRow w x.1 x.2.2 ∧ x.2.2.length ≤ x.2.1 ∧ x.2.1 ≤ maxLen) ∧ x.2.2.length ≤ 4398046510976) Try.underlying23 e3 e4 (by decide) xV_len (fun x => ⟨_, rfl⟩) (d := d) (p := p) hw (fun n cs d p hw h => rdn_ofW hw h) hf
  exact ⟨a, L, cap, hv, ⟨hr, fun r hr => (hP r hr).1⟩, by omega, fun r hr => (hP r hr).2, hc⟩
end Du
end Go.Proofs.Ytkpepbcoeoalkaa
