import Derived.Test.YtkknenmpdimdbaaGreatDoorQW
import Derived.Stop.LaidErr
import Derived.MakeChecks
import Derived.LaidSub
import Derived.Test.YtkknenmpdimdbaaGreatDoorRows
import Derived.OpenShut
import Derived.ShutString
import Derived.Deep.Slices
namespace Go.Proofs.YtkknenmpdimdbaaGreatDoor
namespace Ke
open Go.RowKit Go.WideShapes Go.ChangeShapes
open Du (PRow DRow PX GRow sd pV xV pV_len xV_len add_o)
set_option linter.unusedVariables false
set_option linter.unusedSimpArgs false
set_option maxRecDepth 100000

theorem bulk_app {H : Type} (a b : List (DataW H)) : Rows.uptoBulkAll (a ++ b) = Rows.uptoBulkAll a + Rows.uptoBulkAll b := by
  induction a with
  | nil => simp [Rows.uptoBulkAll]
  | cons d a ih => simp only [List.cons_append, Rows.uptoBulkAll, ih]; omega
theorem bulk_sum {H : Type} (D : Nat → DataW H) (f : Nat → Nat) : ∀ l, (∀ i, i < l → f i ≤ Rows.uptoBulk (D i)) → ((List.range l).map f).sum ≤ Rows.uptoBulkAll ((List.range l).map D) := by
  intro l
  induction l with
  | zero => intro _; simp [Rows.uptoBulkAll]
  | succ l ih =>
    intro h
    have h1 := ih (fun i hi => h i (by omega))
    have h2 := h l (by omega)
    rw [List.range_succ, List.map_append, List.map_append, List.map_cons, List.map_nil, List.map_cons, List.map_nil, bulk_app, List.sum_append]
    simp [Rows.uptoBulkAll]
    omega

theorem rows_of {α : Type} (z0 : α) (V : α → List Value) (k : Nat) (P : α → Prop) (Z : α → Nat) {t ts : TypeId} (hund : Tryz.prog.underlying ts = some (.slice t)) (hcl : Tryz.prog.cellsOf t = k) (hk : 0 < k) (h0 : ∀ x, ∃ u, (V x)[0]? = some u)
    {H : Type} {enc : TypeId × Value → H} {w : World} {base : Nat} {spare : Nat → Bool} {held : Bool} {fuel : Nat} {v : Value} {d : DataW H} {p : List MemPlace}
    (elem : ∀ n cs d p, DataW.trod enc Tryz.prog w base spare held n t cs = some (d, p) → ∃ x, cs = V x ∧ P x ∧ Z x ≤ Rows.uptoBulk d)
    (hf : DataW.trod enc Tryz.prog w base spare held fuel ts [v] = some (d, p)) : ∃ a xs cap, v = .slice a xs.length cap ∧ GRow k V w a xs ∧ (∀ x ∈ xs, P x) ∧ (xs.map Z).sum + 1 ≤ Rows.uptoBulk d ∧ xs.length ≤ cap ∧ cap ≤ maxLen := by
  rcases Deep.open_slice hund hf with ⟨hcs, hx⟩ | ⟨x, l, c, m, n, D, Pl, hcs, _, hl, hcm, hm, hxd, hx⟩
  · simp at hcs
    subst hcs
    injection hx with hx _
    subst hx
    exact ⟨none, [], 0, rfl, Du.GRow.nil _ _ _ _, fun x hx => by simp at hx, by simp [Rows.uptoBulk], Nat.le_refl _, by unfold maxLen; omega⟩
  · simp at hcs
    subst hcs
    rw [hcl] at hx
    have key : ∀ i, i < l → ∃ q : α, (∀ j, j < k → w.cell? ((x.add (i * k)).add j) = (V q)[j]?) ∧ P q ∧ Z q ≤ Rows.uptoBulk (D i) := fun i hi => by
      have him : i < m := by rw [hm]; split <;> omega
      obtain ⟨cs', h1, h2⟩ := hx i him
      obtain ⟨q, rfl, hr, hb⟩ := elem _ _ _ _ h2
      obtain ⟨_, _, h3⟩ := World.cells?_some h1
      exact ⟨q, h3, hr, hb⟩
    haveI : Inhabited α := ⟨z0⟩
    obtain ⟨Q, hQ⟩ := Deep.choose_lt key
    injection hxd with hxd _
    have hle : Rows.uptoBulkAll ((List.range l).map D) + 1 ≤ Rows.uptoBulk d := by
      rw [hxd]
      simp only [Rows.uptoBulk]
      omega
    have hs := bulk_sum D (fun i => Z (Q i)) l (fun i hi => (hQ i hi).2.2)
    refine ⟨some x, (List.range l).map Q, c, by simp, fun i hi => ?_, fun z hz => ?_, ?_, by simpa using hl, hcm⟩
    · have hi' : i < l := by simpa using hi
      obtain ⟨h1, _, _⟩ := hQ i hi'
      obtain ⟨b, off, spot⟩ := x
      have hspot : spot = none := by
        have h2 := (hQ 0 (by omega)).1 0 hk
        obtain ⟨u, hu⟩ := h0 (Q 0)
        rw [hu] at h2
        have := World.cell?_spot h2
        simpa [Addr.add] using this
      subst hspot
      have e : ((List.range l).map Q)[i] = Q i := by simp
      rw [e]
      refine ⟨b, off, rfl, fun j hj => ?_⟩
      have := h1 j hj
      rw [add_o, add_o] at this
      exact this
    · obtain ⟨i, hi, rfl⟩ := List.mem_map.1 hz
      have hi' : i < l := by simpa using hi
      exact (hQ i hi').2.1
    · rw [List.map_map]
      have e : (Z ∘ Q) = fun i => Z (Q i) := rfl
      rw [e]
      omega

theorem ava_of {H : Type} {enc : TypeId × Value → H} {w : World} {base : Nat} {spare : Nat → Bool} {held : Bool} {n : Nat} {cs : List Value} {d : DataW H} {p : List MemPlace}
    (h : DataW.trod enc Tryz.prog w base spare held n 64 cs = some (d, p)) : ∃ x : PR, cs = pV x ∧ True ∧ x.1.length + x.2.length + 1 ≤ Rows.uptoBulk d := by
  obtain ⟨xs, n', rfl, hx, hl, hxl, hfi⟩ := DataW.trod_struct Tryz.underlying64 h
  have e2 : Tryz.prog.cellsOf 64 = 2 := by kernel_rfl
  rw [e2] at hl
  match cs, hl with
  | [x0, x1], _ =>
    match xs, hxl with
    | [y0, y1], _ =>
      have g0 := hfi 0 _ rfl
      have g1 := hfi 1 _ rfl
      have z1 : Tryz.prog.cellsOf 9 = 1 := by kernel_rfl
      simp [z1] at g0
      simp [z1] at g1
      obtain ⟨f, hf, hf2, _⟩ := DataW.trod_string Tryz.underlying9 g0
      obtain ⟨s, hs, hs2, _⟩ := DataW.trod_string Tryz.underlying9 g1
      simp at hf hs
      refine ⟨(f.data.toList, s.data.toList), ?_, trivial, ?_⟩
      · rw [hf, hs]
        simp [pV, S_of]
      · injection hx with hx _
        rw [hx]
        simp only [Rows.uptoBulk, Rows.uptoBulkAll, List.map_cons, List.map_nil, hf2, hs2]
        omega
/-- A part's bulk. -/
def zP (p : PR) : Nat := p.1.length + p.2.length + 1
def zR (x : PX) : Nat := (x.2.2.map zP).sum + 1
theorem rdn_of {H : Type} {enc : TypeId × Value → H} {w : World} {base : Nat} {spare : Nat → Bool} {held : Bool} {n : Nat} {cs : List Value} {d : DataW H} {p : List MemPlace}
    (h : DataW.trod enc Tryz.prog w base spare held n 57 cs = some (d, p)) : ∃ x : PX, cs = xV x ∧ (PRow w x.1 x.2.2 ∧ x.2.2.length ≤ x.2.1 ∧ x.2.1 ≤ maxLen) ∧ zR x ≤ Rows.uptoBulk d := by
  have e3 : Tryz.prog.cellsOf 64 = 2 := by kernel_rfl
  obtain ⟨v, rfl⟩ : ∃ v, cs = [v] := by
    rcases Deep.open_slice Tryz.underlying57 h with ⟨hcs, _⟩ | ⟨x, l, c, m, n, D, Pl, hcs, _⟩
    · exact ⟨_, hcs⟩
    · exact ⟨_, hcs⟩
  obtain ⟨a, l, cap, hv, hr, _, hb, hc, hm⟩ := rows_of (([], []) : PR) pV 2 (fun _ => True) zP Tryz.underlying57 e3 (by decide) (fun x => ⟨_, rfl⟩) (d := d) (p := p) (fun n cs d p h => ava_of h) h
  exact ⟨(a, cap, l), by rw [hv]; rfl, ⟨hr, hc, hm⟩, hb⟩
theorem sum_mem {α : Type} (f : α → Nat) : ∀ (l : List α), (∀ x ∈ l, f x ≤ (l.map f).sum)
  | [], x, h => by simp at h
  | y :: l, x, h => by
    simp only [List.map_cons, List.sum_cons]
    rcases List.mem_cons.1 h with e | e
    · subst e; omega
    · have := sum_mem f l x e; omega
theorem sum_len {α : Type} (f : α → Nat) (hf : ∀ x, 1 ≤ f x) : ∀ (l : List α), l.length ≤ (l.map f).sum
  | [] => Nat.le_refl _
  | y :: l => by
    have := sum_len f hf l
    have := hf y
    simp only [List.map_cons, List.sum_cons, List.length_cons]
    omega
/-- A name that came in. -/
theorem dn_of {H : Type} {enc : TypeId × Value → H} {w : World} {base : Nat} {spare : Nat → Bool} {held : Bool} {v : Value} {d : DataW H} {p : List MemPlace}
    (hf : DataW.Trod enc Tryz.prog w base spare held 23 v d p) (hv1 : v.cells = #[v]) (hB : Rows.uptoBulk d ≤ 1048576) : ∃ a L cap, v = .slice a L.length cap ∧ DRow w a L ∧ Szs L ∧ L.length ≤ cap ∧ cap ≤ maxLen := by
  obtain ⟨fuel, hf⟩ := hf
  rw [hv1] at hf
  have e3 : Tryz.prog.cellsOf 57 = 1 := by kernel_rfl
  obtain ⟨a, L, cap, hv, hr, hP, hb, hc, hm⟩ := rows_of ((none, 0, []) : PX) xV 1 (fun x => PRow w x.1 x.2.2 ∧ x.2.2.length ≤ x.2.1 ∧ x.2.1 ≤ maxLen) zR Tryz.underlying23 e3 (by decide) (fun x => ⟨_, rfl⟩) (d := d) (p := p) (fun n cs d p h => rdn_of h) hf
  refine ⟨a, L, cap, hv, ⟨hr, hP⟩, ⟨fun r hr p hp => ?_, fun r hr => ?_, ?_⟩, hc, hm⟩
  · have h1 := sum_mem zR L r hr
    have h2 := sum_mem zP r.2.2 p hp
    have h3 : zR r = (r.2.2.map zP).sum + 1 := rfl
    have h4 : zP p = p.1.length + p.2.length + 1 := rfl
    omega
  · have h1 := sum_mem zR L r hr
    have h2 := sum_len zP (fun _ => by unfold zP; omega) r.2.2
    have h3 : zR r = (r.2.2.map zP).sum + 1 := rfl
    omega
  · have h2 := sum_len zR (fun x => by unfold zR; omega) L
    omega
/-- What a row's listed sentinel at the head of the list says of its cell: an interface value. -/
theorem err_head {g : String} {G : Nat} (hg : Tryz.prog.globalNamed g = some G) (ht : (Tryz.prog.globals[G]?).map (·.type) = some 32) {nm : String} {d : DataW Unit} {r : List (String × DataW Unit)} {W : World} (h : laidMet Tryz.prog ((g, .iface nm d) :: r) W) : ∃ t u, W.cell? ⟨G, 0, none⟩ = some (.iface t u) := by
  obtain ⟨ps, ⟨g0, t0, cs0, f0, p0, q0, hg0, ht0, hv0, hd0, _, e0⟩, _, hrows⟩ := h
  obtain rfl := Option.some.inj (hg.symm.trans hg0)
  obtain rfl := Option.some.inj (ht.symm.trans ht0)
  obtain ⟨l0⟩ := cs0
  obtain ⟨f1, u, v, rfl, hn, h1⟩ := iface_of_trod Tryz.underlying32 hd0
  exact ⟨u, v, by simpa using World.var?_cell hg0 hv0 0⟩
theorem errs_of {W : World} {L0 : List (String × DataW Unit)} (e0 : L0 = [("roster/dn.ErrUTF8", Rows.laid_roster_dn_ErrUTF8), ("roster/dn.ErrTwice", Rows.laid_roster_dn_ErrTwice), ("roster/dn.ErrWide", Rows.laid_roster_dn_ErrWide), ("roster/dn.ErrMade", Rows.laid_roster_dn_ErrMade)]) (hp : laidMetH Tryz.prog L0 W ↔ laidMet Tryz.prog L0 W) (hL : laidMetH Tryz.prog L0 W) : ErrsG W := by
  have h := hp.1 hL
  rw [e0] at h
  obtain ⟨t3, u3, h3⟩ := err_head (g := "roster/dn.ErrUTF8") (G := 1) (by kernel_rfl) (by kernel_rfl) h
  obtain ⟨t2, u2, h2⟩ := err_head (g := "roster/dn.ErrTwice") (G := 7) (by kernel_rfl) (by kernel_rfl) h.tail
  obtain ⟨t0, u0, h0⟩ := err_head (g := "roster/dn.ErrWide") (G := 8) (by kernel_rfl) (by kernel_rfl) h.tail.tail
  obtain ⟨t1, u1, h1⟩ := err_head (g := "roster/dn.ErrMade") (G := 9) (by kernel_rfl) (by kernel_rfl) h.tail.tail.tail
  exact ⟨t0, u0, t1, u1, t2, u2, t3, u3, h0, h1, h2, h3⟩
end Ke
end Go.Proofs.YtkknenmpdimdbaaGreatDoor
