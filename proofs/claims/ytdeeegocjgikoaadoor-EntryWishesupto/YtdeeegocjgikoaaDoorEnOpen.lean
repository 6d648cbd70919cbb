import Derived.Test.YtdeeegocjgikoaaDoorEnBack
import Derived.Test.YtdeeegocjgikoaaDoorRows
import Derived.OpenShut
import Derived.ShutString
import Derived.Deep.Slices
namespace Go.Proofs.YtdeeegocjgikoaaDoor
open Go.RowKit Go.WideShapes
set_option linter.unusedVariables false
set_option linter.unusedSimpArgs false

theorem bulk_len {H : Type} : ∀ es : List (DataW H), es.length ≤ Rows.uptoBulkAll es
  | [] => Nat.le_refl _
  | d :: es => by
    have h1 := bulk_len es
    have h2 : 1 ≤ Rows.uptoBulk d := by
      cases d <;> first | (simp [Rows.uptoBulk]; done) | (rename_i x; cases x <;> simp [Rows.uptoBulk])
    simp only [List.length_cons, Rows.uptoBulkAll]
    omega
theorem bulk_app {H : Type} (a b : List (DataW H)) : Rows.uptoBulkAll (a ++ b) = Rows.uptoBulkAll a + Rows.uptoBulkAll b := by
  induction a with
  | nil => simp [Rows.uptoBulkAll]
  | cons d a ih => simp only [List.cons_append, Rows.uptoBulkAll, ih]; omega

theorem rowc_of {H : Type} {enc : TypeId × Value → H} {w : World} {base : Nat} {spare : Nat → Bool} {held : Bool} {fuel : Nat} {v : Value} {d : DataW H} {p : List MemPlace}
    (hf : DataW.trod enc Tryd.prog w base spare held fuel 22 [v] = some (d, p)) :
    ∃ a l cap, v = .slice a l.length cap ∧ Row w a l ∧ l.length ≤ Rows.uptoBulk d := by
  have e1 : Tryd.prog.cellsOf 9 = 1 := by kernel_rfl
  rcases Deep.open_slice1 Tryd.underlying22 e1 hf with ⟨hcs, hx⟩ | ⟨x, len, c, m, n, V, D, Pl, hcs, _, hl, _, hm, hxd, hx⟩
  · simp at hcs
    subst hcs
    exact ⟨none, [], 0, rfl, Row.nil _ _, Nat.zero_le _⟩
  · simp at hcs
    subst hcs
    have key : ∀ i, i < len → ∃ q : ByteArray, w.cell? (x.add i) = some (.string q) := fun i hi => by
      have him : i < m := by rw [hm]; split <;> omega
      obtain ⟨h1, h2⟩ := hx i him
      obtain ⟨s, hs, _, _⟩ := DataW.trod_string Tryd.underlying9 h2
      simp at hs
      exact ⟨s, by rw [h1, hs]⟩
    obtain ⟨Q, hQ⟩ := Deep.choose_lt key
    injection hxd with hxd _
    refine ⟨some x, (List.range len).map fun i => (Q i).data.toList, c, by simp, ?_, ?_⟩
    · intro i hi
      have hi' : i < len := by simpa using hi
      have h1 := hQ i hi'
      obtain ⟨b, off, spot⟩ := x
      have hspot : spot = none := by
        have h0 := hQ 0 (by omega)
        have := World.cell?_spot h0
        simpa [Addr.add] using this
      subst hspot
      rw [add_off] at h1
      refine ⟨b, off, rfl, ?_⟩
      rw [h1]
      simp [S_of]
    · rw [hxd]
      have := bulk_len ((List.range len).map D)
      rw [List.length_map, List.length_range] at this
      simp only [Rows.uptoBulk, List.length_map, List.length_range]
      omega

set_option maxRecDepth 100000 in
theorem attr_of {H : Type} {enc : TypeId × Value → H} {w : World} {base : Nat} {spare : Nat → Bool} {held : Bool} {n : Nat} {cs : List Value} {d : DataW H} {p : List MemPlace}
    (h : DataW.trod enc Tryd.prog w base spare held n 32 cs = some (d, p)) : ∃ x : Atr, cs = [.string (S x.d), .string (S x.c), .slice x.a x.l.length x.n] ∧ Row w x.a x.l ∧ x.l.length + 1 ≤ Rows.uptoBulk d ∧ x.c.length ≤ Rows.uptoBulk d := by
  obtain ⟨xs, n', rfl, hx, hl, hxl, hfi⟩ := DataW.trod_struct Tryd.underlying32 h
  have e2 : Tryd.prog.cellsOf 32 = 3 := by kernel_rfl
  rw [e2] at hl
  match cs, hl with
  | [x0, x1, x2], _ =>
    match xs, hxl with
    | [y0, y1, y2], _ =>
      have g0 := hfi 0 _ rfl
      have g1 := hfi 1 _ rfl
      have g2 := hfi 2 _ rfl
      have z1 : Tryd.prog.cellsOf 9 = 1 := by kernel_rfl
      have z2 : Tryd.prog.cellsOf 22 = 1 := by kernel_rfl
      simp [z1] at g0
      simp [z1] at g1
      simp [z1, z2] at g2
      obtain ⟨f, hf, hf2, _⟩ := DataW.trod_string Tryd.underlying9 g0
      obtain ⟨s, hs, hs2, _⟩ := DataW.trod_string Tryd.underlying9 g1
      obtain ⟨a, l, cap, hv, hr, hb⟩ := rowc_of (d := y2.1) (p := y2.2) g2
      simp at hf hs
      refine ⟨⟨f.data.toList, s.data.toList, a, cap, l⟩, ?_, hr, ?_⟩
      · rw [hf, hs, hv]
        simp [S_of]
      · injection hx with hx _
        rw [hx, hs2]
        simp [Rows.uptoBulk, Rows.uptoBulkAll]
        constructor <;> omega

theorem prs_bulk {H : Type} (D : Nat → DataW H) (Q : Nat → Atr) (l : Nat) (h : ∀ i, i < l → (Q i).l.length + 1 ≤ Rows.uptoBulk (D i)) : (prs ((List.range l).map Q)).length + l ≤ Rows.uptoBulkAll ((List.range l).map D) := by
  induction l with
  | zero => exact Nat.zero_le _
  | succ l ih =>
    rw [List.range_succ, List.map_append, List.map_append, bulk_app]
    have h1 := ih (fun i hi => h i (by omega))
    have h2 := h l (by omega)
    simp only [List.map_cons, List.map_nil, Rows.uptoBulkAll]
    rw [prs_snoc, List.length_append, List.length_map]
    omega

theorem attrs_of {H : Type} {enc : TypeId × Value → H} {w : World} {base : Nat} {spare : Nat → Bool} {held : Bool} {fuel : Nat} {v : Value} {d : DataW H} {p : List MemPlace}
    (hf : DataW.trod enc Tryd.prog w base spare held fuel 23 [v] = some (d, p)) : ∃ a xs cap, v = .slice a xs.length cap ∧ ARow w a xs ∧ (prs xs).length + xs.length ≤ Rows.uptoBulk d ∧ (∀ x ∈ xs, x.l.length ≤ Rows.uptoBulk d ∧ x.c.length ≤ Rows.uptoBulk d) ∧ xs.length ≤ cap := by
  have e2 : Tryd.prog.cellsOf 32 = 3 := by kernel_rfl
  rcases Deep.open_slice Tryd.underlying23 hf with ⟨hcs, hx⟩ | ⟨x, l, c, m, n, D, Pl, hcs, _, hl, _, hm, hxd, hx⟩
  · simp at hcs
    subst hcs
    exact ⟨none, [], 0, rfl, fun i hi => by simp at hi, Nat.zero_le _, fun x hx => by simp at hx, Nat.le_refl _⟩
  · simp at hcs
    subst hcs
    rw [e2] at hx
    have key : ∀ i, i < l → ∃ q : Atr, (w.cell? ((x.add (i * 3)).add 0) = some (.string (S q.d)) ∧ w.cell? ((x.add (i * 3)).add 1) = some (.string (S q.c)) ∧ w.cell? ((x.add (i * 3)).add 2) = some (.slice q.a q.l.length q.n)) ∧ Row w q.a q.l ∧ q.l.length + 1 ≤ Rows.uptoBulk (D i) ∧ q.c.length ≤ Rows.uptoBulk (D i) := fun i hi => by
      have him : i < m := by rw [hm]; split <;> omega
      obtain ⟨cs', h1, h2⟩ := hx i him
      obtain ⟨q, rfl, hr, hb⟩ := attr_of h2
      obtain ⟨_, _, h3⟩ := World.cells?_some h1
      exact ⟨q, ⟨h3 0 (by omega), h3 1 (by omega), h3 2 (by omega)⟩, hr, hb⟩
    haveI : Inhabited Atr := ⟨⟨[], [], none, 0, []⟩⟩
    obtain ⟨Q, hQ⟩ := Deep.choose_lt key
    injection hxd with hxd _
    have hbb := prs_bulk D Q l (fun i hi => (hQ i hi).2.2.1)
    have hle : Rows.uptoBulkAll ((List.range l).map D) ≤ Rows.uptoBulk d := by
      rw [hxd]
      simp only [Rows.uptoBulk]
      omega
    refine ⟨some x, (List.range l).map Q, c, by simp, fun i hi => ?_, ?_, fun z hz => ?_, by simpa using hl⟩
    · have hi' : i < l := by simpa using hi
      obtain ⟨⟨h0, h1, h2⟩, h3, _⟩ := hQ i hi'
      obtain ⟨b, off, spot⟩ := x
      have hspot : spot = none := by
        have h0 := (hQ 0 (by omega)).1.1
        have := World.cell?_spot h0
        simpa [Addr.add] using this
      subst hspot
      rw [add_off, add_off] at h0 h1 h2
      have e : ((List.range l).map Q)[i] = Q i := by simp
      rw [e]
      exact ⟨⟨b, off, rfl, h0, h1, h2⟩, h3⟩
    · simp only [List.length_map, List.length_range]
      omega
    · obtain ⟨i, hi, rfl⟩ := List.mem_map.1 hz
      have hi' : i < l := by simpa using hi
      have h1 := (hQ i hi').2.2.1
      have h5 := (hQ i hi').2.2.2
      have h2 : Rows.uptoBulk (D i) ≤ Rows.uptoBulkAll ((List.range l).map D) := by
        have h3 : (List.range l).map D = ((List.range l).map D).take i ++ D i :: ((List.range l).map D).drop (i + 1) := by
          have h4 := List.take_append_drop i ((List.range l).map D)
          rw [List.drop_eq_getElem_cons (by simpa using hi')] at h4
          simpa using h4.symm
        rw [h3, bulk_app]
        simp only [Rows.uptoBulkAll]
        omega
      constructor <;> omega

set_option maxRecDepth 100000 in
theorem entry_ofc {H : Type} {enc : TypeId × Value → H} {w : World} {base : Nat} {spare : Nat → Bool} {held : Bool} {r : Reach} {b0 : Nat} {v : Value} {d : DataW H} {p : List MemPlace}
    (hval : Value.okWide Tryd.prog w r b0 25 v) (h : DataW.Trod enc Tryd.prog w base spare held 25 v d p) : ∃ ln nm ka kl kc a xs c, v = .agg #[.int .i64 ln, .string nm, .slice ka kl.length kc, .slice a xs.length c] ∧ Row w ka kl ∧ ARow w a xs ∧ kl.length ≤ Rows.uptoBulk d ∧ (prs xs).length + xs.length ≤ Rows.uptoBulk d ∧ (∀ x ∈ xs, x.l.length ≤ Rows.uptoBulk d ∧ x.c.length ≤ Rows.uptoBulk d) ∧ xs.length ≤ c := by
  obtain ⟨cs, rfl, hsz⟩ := okWide_struct Tryd.underlying25 hval
  obtain ⟨fuel, hf⟩ := h
  obtain ⟨xs, n, rfl, hx, hl, hxl, hfi⟩ := DataW.trod_struct Tryd.underlying25 hf
  have e4 : Tryd.prog.cellsOf 25 = 4 := by kernel_rfl
  rw [e4] at hsz
  obtain ⟨l, rfl⟩ : ∃ l : List Value, cs = l.toArray := ⟨cs.toList, by simp⟩
  have hl4 : l.length = 4 := by simpa using hsz
  match l, hl4 with
  | [x0, x1, x2, x3], _ =>
    match xs, hxl with
    | [y0, y1, y2, y3], _ =>
      have g0 := hfi 0 _ rfl
      have g1 := hfi 1 _ rfl
      have g2 := hfi 2 _ rfl
      have g3 := hfi 3 _ rfl
      have z0 : Tryd.prog.cellsOf 3 = 1 := by kernel_rfl
      have z1 : Tryd.prog.cellsOf 9 = 1 := by kernel_rfl
      have z2 : Tryd.prog.cellsOf 22 = 1 := by kernel_rfl
      have z3 : Tryd.prog.cellsOf 23 = 1 := by kernel_rfl
      simp [Value.cells, z0] at g0
      simp [Value.cells, z0, z1] at g1
      simp [Value.cells, z0, z1, z2] at g2
      simp [Value.cells, z0, z1, z2, z3] at g3
      obtain ⟨ln, hc, _⟩ := DataW.trod_int Tryd.underlying3 g0
      obtain ⟨nm, hs, _⟩ := DataW.trod_string Tryd.underlying9 g1
      obtain ⟨ka, kl, kc, hv, hr, hb⟩ := rowc_of (d := y2.1) (p := y2.2) g2
      obtain ⟨a, zs, c, hv3, hr3, hb3, hc3, hcc⟩ := attrs_of (d := y3.1) (p := y3.2) g3
      simp at hc hs
      injection hx with hx _
      have hd : Rows.uptoBulk y2.1 ≤ Rows.uptoBulk d ∧ Rows.uptoBulk y3.1 ≤ Rows.uptoBulk d := by
        rw [hx]
        simp [Rows.uptoBulk, Rows.uptoBulkAll]
        omega
      exact ⟨ln, nm, ka, kl, kc, a, zs, c, by rw [hc, hs, hv, hv3], hr, hr3, Nat.le_trans hb hd.1, Nat.le_trans hb3 hd.2, fun x hx => ⟨Nat.le_trans (hc3 x hx).1 hd.2, Nat.le_trans (hc3 x hx).2 hd.2⟩, hcc⟩
set_option maxRecDepth 100000 in
theorem entry_of {H : Type} {enc : TypeId × Value → H} {w : World} {base : Nat} {spare : Nat → Bool} {held : Bool} {r : Reach} {b0 : Nat} {v : Value} {d : DataW H} {p : List MemPlace}
    (hval : Value.okWide Tryd.prog w r b0 25 v) (h : DataW.Trod enc Tryd.prog w base spare held 25 v d p) : ∃ ln nm ka kl kc a xs c, v = .agg #[.int .i64 ln, .string nm, .slice ka kl.length kc, .slice a xs.length c] ∧ Row w ka kl ∧ ARow w a xs ∧ kl.length ≤ Rows.uptoBulk d ∧ (prs xs).length + xs.length ≤ Rows.uptoBulk d ∧ ∀ x ∈ xs, x.l.length ≤ Rows.uptoBulk d ∧ x.c.length ≤ Rows.uptoBulk d := by
  obtain ⟨ln, nm, ka, kl, kc, a, xs, c, h1, h2, h3, h4, h5, h6, _⟩ := entry_ofc hval h
  exact ⟨ln, nm, ka, kl, kc, a, xs, c, h1, h2, h3, h4, h5, h6⟩
end Go.Proofs.YtdeeegocjgikoaaDoor
