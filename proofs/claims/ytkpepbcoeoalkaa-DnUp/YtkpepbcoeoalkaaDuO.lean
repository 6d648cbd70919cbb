import Derived.Test.YtkpepbcoeoalkaaDuI
import Derived.Test.YtkpepbcoeoalkaaRows
import Derived.OpenShut
import Derived.ShutString
import Derived.Deep.Slices
namespace Go.Proofs.Ytkpepbcoeoalkaa
namespace Du
open Go.RowKit Go.WideShapes
set_option linter.unusedVariables false
set_option linter.unusedSimpArgs false
set_option maxRecDepth 100000

theorem bulk_app {H : Type} (a b : List (DataW H)) : Rows.uptoBulkAll (a ++ b) = Rows.uptoBulkAll a + Rows.uptoBulkAll b := by
  induction a with
  | nil => simp [Rows.uptoBulkAll]
  | cons d a ih => simp only [List.cons_append, Rows.uptoBulkAll, ih]; omega
theorem bulk_sum {H : Type} (D : Nat → DataW H) (f : Nat → Nat) : ∀ l, (∀ i, i < l → f i ≤ Rows.uptoBulk (D i)) → ((List.range l).map f).sum ≤ Rows.uptoBulkAll ((List.range l).map D) := by
  intro l
  induction l with
  | zero => intro _; simp [Rows.uptoBulkAll]
  | succ l ih =>
    intro h
    have h1 := ih (fun i hi => h i (by omega))
    have h2 := h l (by omega)
    rw [List.range_succ, List.map_append, List.map_append, List.map_cons, List.map_nil, List.map_cons, List.map_nil, bulk_app, List.sum_append]
    simp [Rows.uptoBulkAll]
    omega

theorem rows_of {α : Type} (z0 : α) (V : α → List Value) (k : Nat) (P : α → Prop) (Z : α → Nat) {t ts : TypeId} (hund : Try.prog.underlying ts = some (.slice t)) (hcl : Try.prog.cellsOf t = k) (hk : 0 < k) (h0 : ∀ x, ∃ u, (V x)[0]? = some u)
    {H : Type} {enc : TypeId × Value → H} {w : World} {base : Nat} {spare : Nat → Bool} {held : Bool} {fuel : Nat} {v : Value} {d : DataW H} {p : List MemPlace}
    (elem : ∀ n cs d p, DataW.trod enc Try.prog w base spare held n t cs = some (d, p) → ∃ x, cs = V x ∧ P x ∧ Z x ≤ Rows.uptoBulk d)
    (hf : DataW.trod enc Try.prog w base spare held fuel ts [v] = some (d, p)) : ∃ a xs cap, v = .slice a xs.length cap ∧ GRow k V w a xs ∧ (∀ x ∈ xs, P x) ∧ (xs.map Z).sum + 1 ≤ Rows.uptoBulk d ∧ xs.length ≤ cap ∧ cap ≤ maxLen := by
  rcases Deep.open_slice hund hf with ⟨hcs, hx⟩ | ⟨x, l, c, m, n, D, Pl, hcs, _, hl, hcm, hm, hxd, hx⟩
  · simp at hcs
    subst hcs
    injection hx with hx _
    subst hx
    exact ⟨none, [], 0, rfl, GRow.nil _ _ _ _, fun x hx => by simp at hx, by simp [Rows.uptoBulk], Nat.le_refl _, by unfold maxLen; omega⟩
  · simp at hcs
    subst hcs
    rw [hcl] at hx
    have key : ∀ i, i < l → ∃ q : α, (∀ j, j < k → w.cell? ((x.add (i * k)).add j) = (V q)[j]?) ∧ P q ∧ Z q ≤ Rows.uptoBulk (D i) := fun i hi => by
      have him : i < m := by rw [hm]; split <;> omega
      obtain ⟨cs', h1, h2⟩ := hx i him
      obtain ⟨q, rfl, hr, hb⟩ := elem _ _ _ _ h2
      obtain ⟨_, _, h3⟩ := World.cells?_some h1
      exact ⟨q, h3, hr, hb⟩
    haveI : Inhabited α := ⟨z0⟩
    obtain ⟨Q, hQ⟩ := Deep.choose_lt key
    injection hxd with hxd _
    have hle : Rows.uptoBulkAll ((List.range l).map D) + 1 ≤ Rows.uptoBulk d := by
      rw [hxd]
      simp only [Rows.uptoBulk]
      omega
    have hs := bulk_sum D (fun i => Z (Q i)) l (fun i hi => (hQ i hi).2.2)
    refine ⟨some x, (List.range l).map Q, c, by simp, fun i hi => ?_, fun z hz => ?_, ?_, by simpa using hl, hcm⟩
    · have hi' : i < l := by simpa using hi
      obtain ⟨h1, _, _⟩ := hQ i hi'
      obtain ⟨b, off, spot⟩ := x
      have hspot : spot = none := by
        have h2 := (hQ 0 (by omega)).1 0 hk
        obtain ⟨u, hu⟩ := h0 (Q 0)
        rw [hu] at h2
        have := World.cell?_spot h2
        simpa [Addr.add] using this
      subst hspot
      have e : ((List.range l).map Q)[i] = Q i := by simp
      rw [e]
      refine ⟨b, off, rfl, fun j hj => ?_⟩
      have := h1 j hj
      rw [add_o, add_o] at this
      exact this
    · obtain ⟨i, hi, rfl⟩ := List.mem_map.1 hz
      have hi' : i < l := by simpa using hi
      exact (hQ i hi').2.1
    · rw [List.map_map]
      have e : (Z ∘ Q) = fun i => Z (Q i) := rfl
      rw [e]
      omega

theorem ava_of {H : Type} {enc : TypeId × Value → H} {w : World} {base : Nat} {spare : Nat → Bool} {held : Bool} {n : Nat} {cs : List Value} {d : DataW H} {p : List MemPlace}
    (h : DataW.trod enc Try.prog w base spare held n 38 cs = some (d, p)) : ∃ x : PR, cs = pV x ∧ True ∧ 1 ≤ Rows.uptoBulk d := by
  obtain ⟨xs, n', rfl, hx, hl, hxl, hfi⟩ := DataW.trod_struct Try.underlying38 h
  have e2 : Try.prog.cellsOf 38 = 2 := by kernel_rfl
  rw [e2] at hl
  match cs, hl with
  | [x0, x1], _ =>
    match xs, hxl with
    | [y0, y1], _ =>
      have g0 := hfi 0 _ rfl
      have g1 := hfi 1 _ rfl
      have z1 : Try.prog.cellsOf 9 = 1 := by kernel_rfl
      simp [z1] at g0
      simp [z1] at g1
      obtain ⟨f, hf, hf2, _⟩ := DataW.trod_string Try.underlying9 g0
      obtain ⟨s, hs, hs2, _⟩ := DataW.trod_string Try.underlying9 g1
      simp at hf hs
      refine ⟨(f.data.toList, s.data.toList), ?_, trivial, ?_⟩
      · rw [hf, hs]
        simp [pV, S_of]
      · injection hx with hx _
        rw [hx]
        simp [Rows.uptoBulk]
theorem rdn_of {H : Type} {enc : TypeId × Value → H} {w : World} {base : Nat} {spare : Nat → Bool} {held : Bool} {n : Nat} {cs : List Value} {d : DataW H} {p : List MemPlace}
    (h : DataW.trod enc Try.prog w base spare held n 36 cs = some (d, p)) : ∃ x : PX, cs = xV x ∧ (PRow w x.1 x.2.2 ∧ x.2.2.length ≤ x.2.1 ∧ x.2.1 ≤ maxLen) ∧ x.2.2.length + 1 ≤ Rows.uptoBulk d := by
  have e3 : Try.prog.cellsOf 38 = 2 := by kernel_rfl
  obtain ⟨v, rfl⟩ : ∃ v, cs = [v] := by
    rcases Deep.open_slice Try.underlying36 h with ⟨hcs, _⟩ | ⟨x, l, c, m, n, D, Pl, hcs, _⟩
    · exact ⟨_, hcs⟩
    · exact ⟨_, hcs⟩
  obtain ⟨a, l, cap, hv, hr, _, hb, hc, hm⟩ := rows_of (([], []) : PR) pV 2 (fun _ => True) (fun _ => 1) Try.underlying36 e3 (by decide) (fun x => ⟨_, rfl⟩) (d := d) (p := p) (fun n cs d p h => ava_of h) h
  refine ⟨(a, cap, l), by rw [hv]; rfl, ⟨hr, hc, hm⟩, ?_⟩
  have this : ∀ q : List PR, (q.map fun _ => 1).sum = q.length := fun q => by
    induction q with
    | nil => rfl
    | cons x q ih => rw [List.map_cons, List.sum_cons, ih, List.length_cons]; omega
  show l.length + 1 ≤ _
  rw [← this l]
  exact hb
/-- A name that came in. -/
theorem dn_of {H : Type} {enc : TypeId × Value → H} {w : World} {base : Nat} {spare : Nat → Bool} {held : Bool} {v : Value} {d : DataW H} {p : List MemPlace}
    (hf : DataW.Trod enc Try.prog w base spare held 23 v d p) (hv1 : v.cells = #[v]) : ∃ a L cap, v = .slice a L.length cap ∧ DRow w a L ∧ L.length ≤ Rows.uptoBulk d ∧ (∀ r ∈ L, r.2.2.length ≤ Rows.uptoBulk d) ∧ L.length ≤ cap ∧ cap ≤ maxLen := by
  obtain ⟨fuel, hf⟩ := hf
  rw [hv1] at hf
  have e3 : Try.prog.cellsOf 36 = 1 := by kernel_rfl
  obtain ⟨a, L, cap, hv, hr, hP, hb, hc, hm⟩ := rows_of ((none, 0, []) : PX) xV 1 (fun x => PRow w x.1 x.2.2 ∧ x.2.2.length ≤ x.2.1 ∧ x.2.1 ≤ maxLen) (fun x => x.2.2.length + 1) Try.underlying23 e3 (by decide) (fun x => ⟨_, rfl⟩) (d := d) (p := p) (fun n cs d p h => rdn_of h) hf
  have hsum : ∀ l : List PX, l.length ≤ (l.map fun x => x.2.2.length + 1).sum ∧ ∀ r ∈ l, r.2.2.length ≤ (l.map fun x => x.2.2.length + 1).sum := fun l => by
    induction l with
    | nil => exact ⟨Nat.le_refl _, fun r hr => by simp at hr⟩
    | cons x l ih =>
      simp only [List.map_cons, List.sum_cons, List.length_cons]
      refine ⟨by have := ih.1; omega, fun r hr => ?_⟩
      rcases List.mem_cons.1 hr with e | e
      · subst e; omega
      · have := ih.2 r e; omega
  exact ⟨a, L, cap, hv, ⟨hr, hP⟩, Nat.le_trans (hsum L).1 (Nat.le_of_succ_le hb), fun r hr => Nat.le_trans ((hsum L).2 r hr) (Nat.le_of_succ_le hb), hc, hm⟩
end Du
end Go.Proofs.Ytkpepbcoeoalkaa
