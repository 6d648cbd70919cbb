import Derived.Test.YtembeinglnojkaaDoorMgReq
import Derived.Test.YtembeinglnojkaaDoorRows
import Derived.OpenShut
import Derived.ShutString
import Derived.Deep.Slices
namespace Go.Proofs.YtembeinglnojkaaDoor
open Go.RowKit Go.WideShapes
set_option linter.unusedVariables false
set_option linter.unusedSimpArgs false

theorem bulk_len {H : Type} : ∀ es : List (DataW H), es.length ≤ Rows.uptoBulkAll es
  | [] => Nat.le_refl _
  | d :: es => by
    have h1 := bulk_len es
    have h2 : 1 ≤ Rows.uptoBulk d := by
      cases d <;> first | (simp [Rows.uptoBulk]; done) | (rename_i x; cases x <;> simp [Rows.uptoBulk])
    simp only [List.length_cons, Rows.uptoBulkAll]
    omega
theorem bulk_app {H : Type} (a b : List (DataW H)) : Rows.uptoBulkAll (a ++ b) = Rows.uptoBulkAll a + Rows.uptoBulkAll b := by
  induction a with
  | nil => simp [Rows.uptoBulkAll]
  | cons d a ih => simp only [List.cons_append, Rows.uptoBulkAll, ih]; omega

theorem rowc_of {H : Type} {enc : TypeId × Value → H} {w : World} {base : Nat} {spare : Nat → Bool} {held : Bool} {fuel : Nat} {v : Value} {d : DataW H} {p : List MemPlace}
    (hf : DataW.trod enc Tryd.prog w base spare held fuel 29 [v] = some (d, p)) :
    ∃ a l cap, v = .slice a l.length cap ∧ Row w a l ∧ l.length ≤ Rows.uptoBulk d := by
  have e1 : Tryd.prog.cellsOf 9 = 1 := by kernel_rfl
  rcases Deep.open_slice1 Tryd.underlying29 e1 hf with ⟨hcs, hx⟩ | ⟨x, len, c, m, n, V, D, Pl, hcs, _, hl, _, hm, hxd, hx⟩
  · simp at hcs
    subst hcs
    exact ⟨none, [], 0, rfl, Row.nil _ _, Nat.zero_le _⟩
  · simp at hcs
    subst hcs
    have key : ∀ i, i < len → ∃ q : ByteArray, w.cell? (x.add i) = some (.string q) := fun i hi => by
      have him : i < m := by rw [hm]; split <;> omega
      obtain ⟨h1, h2⟩ := hx i him
      obtain ⟨s, hs, _, _⟩ := DataW.trod_string Tryd.underlying9 h2
      simp at hs
      exact ⟨s, by rw [h1, hs]⟩
    obtain ⟨Q, hQ⟩ := Deep.choose_lt key
    injection hxd with hxd _
    refine ⟨some x, (List.range len).map fun i => (Q i).data.toList, c, by simp, ?_, ?_⟩
    · intro i hi
      have hi' : i < len := by simpa using hi
      have h1 := hQ i hi'
      obtain ⟨b, off, spot⟩ := x
      have hspot : spot = none := by
        have h0 := hQ 0 (by omega)
        have := World.cell?_spot h0
        simpa [Addr.add] using this
      subst hspot
      rw [add_off] at h1
      refine ⟨b, off, rfl, ?_⟩
      rw [h1]
      simp [S_of]
    · rw [hxd]
      have := bulk_len ((List.range len).map D)
      rw [List.length_map, List.length_range] at this
      simp only [Rows.uptoBulk, List.length_map, List.length_range]
      omega

set_option maxRecDepth 100000 in
theorem pat_of {H : Type} {enc : TypeId × Value → H} {w : World} {base : Nat} {spare : Nat → Bool} {held : Bool} {n : Nat} {cs : List Value} {d : DataW H} {p : List MemPlace}
    (h : DataW.trod enc Tryd.prog w base spare held n 69 cs = some (d, p)) : ∃ (i f : List UInt8) (a : Option Addr) (k : Nat) (l : List (List UInt8)), cs = [.string (S i), .slice a l.length k, .string (S f)] ∧ Row w a l ∧ l.length + 1 ≤ Rows.uptoBulk d ∧ i.length ≤ Rows.uptoBulk d ∧ f.length ≤ Rows.uptoBulk d := by
  obtain ⟨xs, n', rfl, hx, hl, hxl, hfi⟩ := DataW.trod_struct Tryd.underlying69 h
  have e2 : Tryd.prog.cellsOf 69 = 3 := by kernel_rfl
  rw [e2] at hl
  match cs, hl with
  | [x0, x1, x2], _ =>
    match xs, hxl with
    | [y0, y1, y2], _ =>
      have g0 := hfi 0 _ rfl
      have g1 := hfi 1 _ rfl
      have g2 := hfi 2 _ rfl
      have z1 : Tryd.prog.cellsOf 9 = 1 := by kernel_rfl
      have z2 : Tryd.prog.cellsOf 29 = 1 := by kernel_rfl
      simp [z1] at g0
      simp [z1, z2] at g1
      simp [z1, z2] at g2
      obtain ⟨f, hf, hf2, _⟩ := DataW.trod_string Tryd.underlying9 g0
      obtain ⟨s, hs, hs2, _⟩ := DataW.trod_string Tryd.underlying9 g2
      obtain ⟨a, l, cap, hv, hr, hb⟩ := rowc_of (d := y1.1) (p := y1.2) g1
      simp at hf hs
      refine ⟨f.data.toList, s.data.toList, a, cap, l, ?_, hr, ?_⟩
      · rw [hf, hs, hv]
        simp [S_of]
      · injection hx with hx _
        rw [hx, hs2, hf2]
        simp [Rows.uptoBulk, Rows.uptoBulkAll]
        omega

set_option maxRecDepth 100000 in
theorem nod_of {H : Type} {enc : TypeId × Value → H} {w : World} {base : Nat} {spare : Nat → Bool} {held : Bool} {n : Nat} {cs : List Value} {d : DataW H} {p : List MemPlace}
    (h : DataW.trod enc Tryd.prog w base spare held n 72 cs = some (d, p)) : ∃ x : Nod, cs = nV x ∧ Row w x.a x.l ∧ x.l.length + 1 ≤ Rows.uptoBulk d ∧ x.desc.length ≤ Rows.uptoBulk d ∧ x.rule.length ≤ Rows.uptoBulk d := by
  obtain ⟨xs, n', rfl, hx, hl, hxl, hfi⟩ := DataW.trod_struct Tryd.underlying72 h
  have e2 : Tryd.prog.cellsOf 72 = 9 := by kernel_rfl
  rw [e2] at hl
  match cs, hl with
  | [x0, x1, x2, x3, x4, x5, x6, x7, x8], _ =>
    match xs, hxl with
    | [y0, y1, y2, y3, y4, y5, y6], _ =>
      have g0 := hfi 0 _ rfl
      have g1 := hfi 1 _ rfl
      have g2 := hfi 2 _ rfl
      have g3 := hfi 3 _ rfl
      have g4 := hfi 4 _ rfl
      have g5 := hfi 5 _ rfl
      have g6 := hfi 6 _ rfl
      have z0 : Tryd.prog.cellsOf 3 = 1 := by kernel_rfl
      have z1 : Tryd.prog.cellsOf 70 = 1 := by kernel_rfl
      have z2 : Tryd.prog.cellsOf 9 = 1 := by kernel_rfl
      have z3 : Tryd.prog.cellsOf 69 = 3 := by kernel_rfl
      have z4 : Tryd.prog.cellsOf 4 = 1 := by kernel_rfl
      simp [z0, z1, z2, z3, z4] at g0
      simp [z0, z1, z2, z3, z4] at g1
      simp [z0, z1, z2, z3, z4] at g2
      simp [z0, z1, z2, z3, z4] at g3
      simp [z0, z1, z2, z3, z4] at g4
      simp [z0, z1, z2, z3, z4] at g5
      simp [z0, z1, z2, z3, z4] at g6
      obtain ⟨v0, k0, _⟩ := DataW.trod_int Tryd.underlying3 g0
      obtain ⟨v1, k1, _⟩ := DataW.trod_int Tryd.underlying70 g1
      obtain ⟨v2, k2, q2, _⟩ := DataW.trod_string Tryd.underlying9 g2
      obtain ⟨v3, k3, _⟩ := DataW.trod_string Tryd.underlying9 g3
      obtain ⟨i, f, a, k, l, k4, hr, hb, _⟩ := pat_of (d := y4.1) (p := y4.2) g4
      obtain ⟨v5, k5, q5, _⟩ := DataW.trod_string Tryd.underlying9 g5
      obtain ⟨v6, k6, _⟩ := DataW.trod_bool Tryd.underlying4 g6
      simp at k0 k1 k2 k3 k4 k5 k6
      obtain ⟨k4, k7, k8⟩ := k4
      refine ⟨⟨v0, v1, v2.data.toList, v3.data.toList, i, a, k, l, f, v5.data.toList, v6⟩, ?_, hr, ?_⟩
      · rw [k0, k1, k2, k3, k4, k5, k6, k7, k8]
        simp [nV, S_of]
      · injection hx with hx _
        rw [hx, q2, q5]
        simp [Rows.uptoBulk, Rows.uptoBulkAll]
        omega

theorem bulk_mem {H : Type} (D : Nat → DataW H) (l i : Nat) (hi : i < l) : Rows.uptoBulk (D i) ≤ Rows.uptoBulkAll ((List.range l).map D) := by
  have h3 : (List.range l).map D = ((List.range l).map D).take i ++ D i :: ((List.range l).map D).drop (i + 1) := by
    have h4 := List.take_append_drop i ((List.range l).map D)
    rw [List.drop_eq_getElem_cons (by simpa using hi)] at h4
    simpa using h4.symm
  rw [h3, bulk_app]
  simp only [Rows.uptoBulkAll]
  omega

theorem rows_of {α : Type} (z0 : α) (V : α → List Value) (k : Nat) (P : α → Prop) (S : α → Nat) {t ts : TypeId} (hund : Tryd.prog.underlying ts = some (.slice t)) (hcl : Tryd.prog.cellsOf t = k) (hk : 0 < k) (hV : ∀ x, (V x).length = k) (h0 : ∀ x, ∃ u, (V x)[0]? = some u)
    {H : Type} {enc : TypeId × Value → H} {w : World} {base : Nat} {spare : Nat → Bool} {held : Bool} {fuel : Nat} {v : Value} {d : DataW H} {p : List MemPlace}
    (elem : ∀ n cs d p, DataW.trod enc Tryd.prog w base spare held n t cs = some (d, p) → ∃ x, cs = V x ∧ P x ∧ S x ≤ Rows.uptoBulk d)
    (hf : DataW.trod enc Tryd.prog w base spare held fuel ts [v] = some (d, p)) : ∃ a xs cap, v = .slice a xs.length cap ∧ GRow k V w a xs ∧ (∀ x ∈ xs, P x ∧ S x ≤ Rows.uptoBulk d) ∧ xs.length ≤ Rows.uptoBulk d := by
  rcases Deep.open_slice hund hf with ⟨hcs, hx⟩ | ⟨x, l, c, m, n, D, Pl, hcs, _, hl, _, hm, hxd, hx⟩
  · simp at hcs
    subst hcs
    exact ⟨none, [], 0, rfl, GRow.nil _ _ _ _, fun x hx => by simp at hx, Nat.zero_le _⟩
  · simp at hcs
    subst hcs
    rw [hcl] at hx
    have key : ∀ i, i < l → ∃ q : α, (∀ j, j < k → w.cell? ((x.add (i * k)).add j) = (V q)[j]?) ∧ P q ∧ S q ≤ Rows.uptoBulk (D i) := fun i hi => by
      have him : i < m := by rw [hm]; split <;> omega
      obtain ⟨cs', h1, h2⟩ := hx i him
      obtain ⟨q, rfl, hr, hb⟩ := elem _ _ _ _ h2
      obtain ⟨_, _, h3⟩ := World.cells?_some h1
      exact ⟨q, h3, hr, hb⟩
    haveI : Inhabited α := ⟨z0⟩
    obtain ⟨Q, hQ⟩ := Deep.choose_lt key
    injection hxd with hxd _
    have hle : Rows.uptoBulkAll ((List.range l).map D) ≤ Rows.uptoBulk d := by
      rw [hxd]
      simp only [Rows.uptoBulk]
      omega
    have hln : l ≤ Rows.uptoBulk d := by
      have := bulk_len ((List.range l).map D)
      rw [List.length_map, List.length_range] at this
      omega
    refine ⟨some x, (List.range l).map Q, c, by simp, fun i hi => ?_, fun z hz => ?_, by simpa using hln⟩
    · have hi' : i < l := by simpa using hi
      obtain ⟨h1, _, _⟩ := hQ i hi'
      obtain ⟨b, off, spot⟩ := x
      have hspot : spot = none := by
        have h2 := (hQ 0 (by omega)).1 0 hk
        obtain ⟨u, hu⟩ := h0 (Q 0)
        rw [hu] at h2
        have := World.cell?_spot h2
        simpa [Addr.add] using this
      subst hspot
      have e : ((List.range l).map Q)[i] = Q i := by simp
      rw [e]
      refine ⟨b, off, rfl, fun j hj => ?_⟩
      have := h1 j hj
      rw [add_off, add_off] at this
      exact this
    · obtain ⟨i, hi, rfl⟩ := List.mem_map.1 hz
      have hi' : i < l := by simpa using hi
      obtain ⟨_, h1, h2⟩ := hQ i hi'
      exact ⟨h1, by have := bulk_mem D l i hi'; omega⟩
set_option maxRecDepth 100000 in
theorem chg_of {H : Type} {enc : TypeId × Value → H} {w : World} {base : Nat} {spare : Nat → Bool} {held : Bool} {n : Nat} {cs : List Value} {d : DataW H} {p : List MemPlace}
    (h : DataW.trod enc Tryd.prog w base spare held n 74 cs = some (d, p)) : ∃ x : Chg, cs = cV x ∧ Row w x.a x.l ∧ x.l.length ≤ Rows.uptoBulk d := by
  obtain ⟨xs, n', rfl, hx, hl, hxl, hfi⟩ := DataW.trod_struct Tryd.underlying74 h
  have e2 : Tryd.prog.cellsOf 74 = 3 := by kernel_rfl
  rw [e2] at hl
  match cs, hl with
  | [x0, x1, x2], _ =>
    match xs, hxl with
    | [y0, y1, y2], _ =>
      have g0 := hfi 0 _ rfl
      have g1 := hfi 1 _ rfl
      have g2 := hfi 2 _ rfl
      have z0 : Tryd.prog.cellsOf 3 = 1 := by kernel_rfl
      have z1 : Tryd.prog.cellsOf 9 = 1 := by kernel_rfl
      have z2 : Tryd.prog.cellsOf 29 = 1 := by kernel_rfl
      simp [z0, z1, z2] at g0
      simp [z0, z1, z2] at g1
      simp [z0, z1, z2] at g2
      obtain ⟨v0, k0, _⟩ := DataW.trod_int Tryd.underlying3 g0
      obtain ⟨v1, k1, q1, _⟩ := DataW.trod_string Tryd.underlying9 g1
      obtain ⟨a, l, cap, k2, hr, hb⟩ := rowc_of (d := y2.1) (p := y2.2) g2
      simp at k0 k1
      refine ⟨⟨v0, v1.data.toList, a, cap, l⟩, ?_, hr, ?_⟩
      · rw [k0, k1, k2]
        simp [cV, S_of]
      · injection hx with hx _
        rw [hx]
        simp [Rows.uptoBulk, Rows.uptoBulkAll]
        omega
set_option maxRecDepth 100000 in
theorem att_of {H : Type} {enc : TypeId × Value → H} {w : World} {base : Nat} {spare : Nat → Bool} {held : Bool} {n : Nat} {cs : List Value} {d : DataW H} {p : List MemPlace}
    (h : DataW.trod enc Tryd.prog w base spare held n 76 cs = some (d, p)) : ∃ x : Att, cs = tV x ∧ Row w x.a x.l ∧ x.l.length ≤ Rows.uptoBulk d := by
  obtain ⟨xs, n', rfl, hx, hl, hxl, hfi⟩ := DataW.trod_struct Tryd.underlying76 h
  have e2 : Tryd.prog.cellsOf 76 = 3 := by kernel_rfl
  rw [e2] at hl
  match cs, hl with
  | [x0, x1, x2], _ =>
    match xs, hxl with
    | [y0, y1, y2], _ =>
      have g0 := hfi 0 _ rfl
      have g1 := hfi 1 _ rfl
      have g2 := hfi 2 _ rfl
      have z0 : Tryd.prog.cellsOf 9 = 1 := by kernel_rfl
      have z1 : Tryd.prog.cellsOf 29 = 1 := by kernel_rfl
      simp [z0, z1] at g0
      simp [z0, z1] at g1
      simp [z0, z1] at g2
      obtain ⟨v0, k0, q0, _⟩ := DataW.trod_string Tryd.underlying9 g0
      obtain ⟨v1, k1, q1, _⟩ := DataW.trod_string Tryd.underlying9 g1
      obtain ⟨a, l, cap, k2, hr, hb⟩ := rowc_of (d := y2.1) (p := y2.2) g2
      simp at k0 k1
      refine ⟨⟨v0.data.toList, v1.data.toList, a, cap, l⟩, ?_, hr, ?_⟩
      · rw [k0, k1, k2]
        simp [tV, S_of]
      · injection hx with hx _
        rw [hx]
        simp [Rows.uptoBulk, Rows.uptoBulkAll]
        omega
set_option maxRecDepth 100000 in
theorem ctl_of {H : Type} {enc : TypeId × Value → H} {w : World} {base : Nat} {spare : Nat → Bool} {held : Bool} {n : Nat} {cs : List Value} {d : DataW H} {p : List MemPlace}
    (h : DataW.trod enc Tryd.prog w base spare held n 52 cs = some (d, p)) : ∃ x : Ctl, cs = oV x := by
  obtain ⟨xs, n', rfl, hx, hl, hxl, hfi⟩ := DataW.trod_struct Tryd.underlying52 h
  have e2 : Tryd.prog.cellsOf 52 = 4 := by kernel_rfl
  rw [e2] at hl
  match cs, hl with
  | [x0, x1, x2, x3], _ =>
    match xs, hxl with
    | [y0, y1, y2, y3], _ =>
      have g0 := hfi 0 _ rfl
      have g1 := hfi 1 _ rfl
      have g2 := hfi 2 _ rfl
      have g3 := hfi 3 _ rfl
      have z0 : Tryd.prog.cellsOf 9 = 1 := by kernel_rfl
      have z1 : Tryd.prog.cellsOf 4 = 1 := by kernel_rfl
      simp [z0, z1] at g0
      simp [z0, z1] at g1
      simp [z0, z1] at g2
      simp [z0, z1] at g3
      obtain ⟨v0, k0, q0, _⟩ := DataW.trod_string Tryd.underlying9 g0
      obtain ⟨v1, k1, _⟩ := DataW.trod_bool Tryd.underlying4 g1
      obtain ⟨v2, k2, q2, _⟩ := DataW.trod_string Tryd.underlying9 g2
      obtain ⟨v3, k3, _⟩ := DataW.trod_bool Tryd.underlying4 g3
      simp at k0 k1 k2 k3
      refine ⟨⟨v0.data.toList, v1, v2.data.toList, v3⟩, ?_⟩
      rw [k0, k1, k2, k3]
      simp [oV, S_of]
set_option maxRecDepth 100000 in
theorem bind_of {H : Type} {enc : TypeId × Value → H} {w : World} {base : Nat} {spare : Nat → Bool} {held : Bool} {n : Nat} {cs : List Value} {d : DataW H} {p : List MemPlace}
    (h : DataW.trod enc Tryd.prog w base spare held n 25 cs = some (d, p)) : ∃ ver bn meth pass mech cred hasc, cs = [.int .i64 ver, .string bn, .int .i64 meth, .string pass, .string mech, .string cred, .bool hasc] := by
  obtain ⟨xs, n', rfl, hx, hl, hxl, hfi⟩ := DataW.trod_struct Tryd.underlying25 h
  have e2 : Tryd.prog.cellsOf 25 = 7 := by kernel_rfl
  rw [e2] at hl
  match cs, hl with
  | [x0, x1, x2, x3, x4, x5, x6], _ =>
    match xs, hxl with
    | [y0, y1, y2, y3, y4, y5, y6], _ =>
      have g0 := hfi 0 _ rfl
      have g1 := hfi 1 _ rfl
      have g2 := hfi 2 _ rfl
      have g3 := hfi 3 _ rfl
      have g4 := hfi 4 _ rfl
      have g5 := hfi 5 _ rfl
      have g6 := hfi 6 _ rfl
      have z0 : Tryd.prog.cellsOf 3 = 1 := by kernel_rfl
      have z1 : Tryd.prog.cellsOf 9 = 1 := by kernel_rfl
      have z2 : Tryd.prog.cellsOf 23 = 1 := by kernel_rfl
      have z3 : Tryd.prog.cellsOf 4 = 1 := by kernel_rfl
      simp [z0, z1, z2, z3] at g0
      simp [z0, z1, z2, z3] at g1
      simp [z0, z1, z2, z3] at g2
      simp [z0, z1, z2, z3] at g3
      simp [z0, z1, z2, z3] at g4
      simp [z0, z1, z2, z3] at g5
      simp [z0, z1, z2, z3] at g6
      obtain ⟨v0, k0, _⟩ := DataW.trod_int Tryd.underlying3 g0
      obtain ⟨v1, k1, q1, _⟩ := DataW.trod_string Tryd.underlying9 g1
      obtain ⟨v2, k2, _⟩ := DataW.trod_int Tryd.underlying23 g2
      obtain ⟨v3, k3, q3, _⟩ := DataW.trod_string Tryd.underlying9 g3
      obtain ⟨v4, k4, q4, _⟩ := DataW.trod_string Tryd.underlying9 g4
      obtain ⟨v5, k5, q5, _⟩ := DataW.trod_string Tryd.underlying9 g5
      obtain ⟨v6, k6, _⟩ := DataW.trod_bool Tryd.underlying4 g6
      simp at k0 k1 k2 k3 k4 k5 k6
      exact ⟨v0, v1, v2, v3, v4, v5, v6, by rw [k0, k1, k2, k3, k4, k5, k6]⟩
theorem nodg_of {H : Type} {enc : TypeId × Value → H} {w : World} {base : Nat} {spare : Nat → Bool} {held : Bool} {fuel : Nat} {v : Value} {d : DataW H} {p : List MemPlace}
    (hf : DataW.trod enc Tryd.prog w base spare held fuel 28 [v] = some (d, p)) : ∃ a xs cap, v = .slice a xs.length cap ∧ RdG 9 nV nT w a xs ∧ (∀ x ∈ xs, x.l.length ≤ Rows.uptoBulk d) ∧ xs.length ≤ Rows.uptoBulk d := by
  obtain ⟨a, xs, c, e, h1, h2, h3⟩ := rows_of (⟨0, 0, [], [], [], none, 0, [], [], [], false⟩ : Nod) nV 9 (fun x => Row w x.a x.l) (fun x => x.l.length) Tryd.underlying28 (by kernel_rfl) (by decide) nV_len (fun x => ⟨_, rfl⟩) (fun n cs d p h => by obtain ⟨x, e, h1, h2, _⟩ := nod_of h; exact ⟨x, e, h1, Nat.le_of_succ_le h2⟩) hf
  exact ⟨a, xs, c, e, ⟨h1, fun x hx => (h2 x hx).1⟩, fun x hx => (h2 x hx).2, h3⟩
theorem chgs_of {H : Type} {enc : TypeId × Value → H} {w : World} {base : Nat} {spare : Nat → Bool} {held : Bool} {fuel : Nat} {v : Value} {d : DataW H} {p : List MemPlace}
    (hf : DataW.trod enc Tryd.prog w base spare held fuel 32 [v] = some (d, p)) : ∃ a xs cap, v = .slice a xs.length cap ∧ RdG 3 cV cT w a xs ∧ (∀ x ∈ xs, x.l.length ≤ Rows.uptoBulk d) ∧ xs.length ≤ Rows.uptoBulk d := by
  obtain ⟨a, xs, c, e, h1, h2, h3⟩ := rows_of (⟨0, [], none, 0, []⟩ : Chg) cV 3 (fun x => Row w x.a x.l) (fun x => x.l.length) Tryd.underlying32 (by kernel_rfl) (by decide) cV_len (fun x => ⟨_, rfl⟩) (fun n cs d p h => by obtain ⟨x, e, h1, h2⟩ := chg_of h; exact ⟨x, e, h1, h2⟩) hf
  exact ⟨a, xs, c, e, ⟨h1, fun x hx => (h2 x hx).1⟩, fun x hx => (h2 x hx).2, h3⟩
theorem atts_of {H : Type} {enc : TypeId × Value → H} {w : World} {base : Nat} {spare : Nat → Bool} {held : Bool} {fuel : Nat} {v : Value} {d : DataW H} {p : List MemPlace}
    (hf : DataW.trod enc Tryd.prog w base spare held fuel 33 [v] = some (d, p)) : ∃ a xs cap, v = .slice a xs.length cap ∧ RdG 3 tV tT w a xs ∧ (∀ x ∈ xs, x.l.length ≤ Rows.uptoBulk d) ∧ xs.length ≤ Rows.uptoBulk d := by
  obtain ⟨a, xs, c, e, h1, h2, h3⟩ := rows_of (⟨[], [], none, 0, []⟩ : Att) tV 3 (fun x => Row w x.a x.l) (fun x => x.l.length) Tryd.underlying33 (by kernel_rfl) (by decide) tV_len (fun x => ⟨_, rfl⟩) (fun n cs d p h => by obtain ⟨x, e, h1, h2⟩ := att_of h; exact ⟨x, e, h1, h2⟩) hf
  exact ⟨a, xs, c, e, ⟨h1, fun x hx => (h2 x hx).1⟩, fun x hx => (h2 x hx).2, h3⟩
theorem ctls_of {H : Type} {enc : TypeId × Value → H} {w : World} {base : Nat} {spare : Nat → Bool} {held : Bool} {fuel : Nat} {v : Value} {d : DataW H} {p : List MemPlace}
    (hf : DataW.trod enc Tryd.prog w base spare held fuel 34 [v] = some (d, p)) : ∃ a xs cap, v = .slice a xs.length cap ∧ GRow 4 oV w a xs ∧ xs.length ≤ Rows.uptoBulk d := by
  obtain ⟨a, xs, c, e, h1, h2, h3⟩ := rows_of (⟨[], false, [], false⟩ : Ctl) oV 4 (fun x => True) (fun x => 0) Tryd.underlying34 (by kernel_rfl) (by decide) oV_len (fun x => ⟨_, rfl⟩) (fun n cs d p h => by obtain ⟨x, e⟩ := ctl_of h; exact ⟨x, e, trivial, Nat.zero_le _⟩) hf
  exact ⟨a, xs, c, e, h1, h3⟩
set_option maxRecDepth 100000 in
set_option maxHeartbeats 1000000 in
theorem search_of {H : Type} {enc : TypeId × Value → H} {w : World} {base : Nat} {spare : Nat → Bool} {held : Bool} {n : Nat} {cs : List Value} {d : DataW H} {p : List MemPlace}
    (h : DataW.trod enc Tryd.prog w base spare held n 31 cs = some (d, p)) : ∃ base scope deref slim tlim typ fa fs fc aa al ac, cs = [.string base, .int .i64 scope, .int .i64 deref, .int .i64 slim, .int .i64 tlim, .bool typ, .slice fa (fs : List Nod).length fc, .slice aa (al : List (List UInt8)).length ac] ∧ RdG 9 nV nT w fa fs ∧ (∀ x ∈ fs, x.l.length ≤ Rows.uptoBulk d) ∧ fs.length ≤ Rows.uptoBulk d ∧ Row w aa al ∧ al.length ≤ Rows.uptoBulk d := by
  obtain ⟨xs, n', rfl, hx, hl, hxl, hfi⟩ := DataW.trod_struct Tryd.underlying31 h
  have e2 : Tryd.prog.cellsOf 31 = 8 := by kernel_rfl
  rw [e2] at hl
  match cs, hl with
  | [x0, x1, x2, x3, x4, x5, x6, x7], _ =>
    match xs, hxl with
    | [y0, y1, y2, y3, y4, y5, y6, y7], _ =>
      have g0 := hfi 0 _ rfl
      have g1 := hfi 1 _ rfl
      have g2 := hfi 2 _ rfl
      have g3 := hfi 3 _ rfl
      have g4 := hfi 4 _ rfl
      have g5 := hfi 5 _ rfl
      have g6 := hfi 6 _ rfl
      have g7 := hfi 7 _ rfl
      have z0 : Tryd.prog.cellsOf 9 = 1 := by kernel_rfl
      have z1 : Tryd.prog.cellsOf 26 = 1 := by kernel_rfl
      have z2 : Tryd.prog.cellsOf 3 = 1 := by kernel_rfl
      have z3 : Tryd.prog.cellsOf 4 = 1 := by kernel_rfl
      have z4 : Tryd.prog.cellsOf 28 = 1 := by kernel_rfl
      have z5 : Tryd.prog.cellsOf 29 = 1 := by kernel_rfl
      simp [z0, z1, z2, z3, z4, z5] at g0
      simp [z0, z1, z2, z3, z4, z5] at g1
      simp [z0, z1, z2, z3, z4, z5] at g2
      simp [z0, z1, z2, z3, z4, z5] at g3
      simp [z0, z1, z2, z3, z4, z5] at g4
      simp [z0, z1, z2, z3, z4, z5] at g5
      simp [z0, z1, z2, z3, z4, z5] at g6
      simp [z0, z1, z2, z3, z4, z5] at g7
      obtain ⟨v0, k0, q0, _⟩ := DataW.trod_string Tryd.underlying9 g0
      obtain ⟨v1, k1, _⟩ := DataW.trod_int Tryd.underlying26 g1
      obtain ⟨v2, k2, _⟩ := DataW.trod_int Tryd.underlying3 g2
      obtain ⟨v3, k3, _⟩ := DataW.trod_int Tryd.underlying3 g3
      obtain ⟨v4, k4, _⟩ := DataW.trod_int Tryd.underlying3 g4
      obtain ⟨v5, k5, _⟩ := DataW.trod_bool Tryd.underlying4 g5
      obtain ⟨fa, fs, fc, k6, hF, lF, bF⟩ := nodg_of (d := y6.1) (p := y6.2) g6
      obtain ⟨aa, al, ac, k7, hA, bA⟩ := rowc_of (d := y7.1) (p := y7.2) g7
      simp at k0 k1 k2 k3 k4 k5
      injection hx with hx _
      have hd : Rows.uptoBulk y6.1 ≤ Rows.uptoBulk d ∧ Rows.uptoBulk y7.1 ≤ Rows.uptoBulk d := by
        rw [hx]
        simp [Rows.uptoBulk, Rows.uptoBulkAll]
        omega
      exact ⟨v0, v1, v2, v3, v4, v5, fa, fs, fc, aa, al, ac, by rw [k0, k1, k2, k3, k4, k5, k6, k7], hF, fun x hx => Nat.le_trans (lF x hx) hd.1, Nat.le_trans bF hd.1, hA, Nat.le_trans bA hd.2⟩
set_option maxRecDepth 100000 in
set_option maxHeartbeats 1000000 in
theorem reqc_of {H : Type} {enc : TypeId × Value → H} {w : World} {base : Nat} {spare : Nat → Bool} {held : Bool} {n : Nat} {cs : List Value} {d : DataW H} {p : List MemPlace}
    (h : DataW.trod enc Tryd.prog w base spare held n 36 cs = some (d, p)) : ∃ q L, cs = (rq q L).toList ∧ LRd w L ∧ (L.fs.length ≤ Rows.uptoBulk d ∧ ∀ x ∈ L.fs, x.l.length ≤ Rows.uptoBulk d) ∧ L.al.length ≤ Rows.uptoBulk d ∧ (L.cs.length ≤ Rows.uptoBulk d ∧ ∀ x ∈ L.cs, x.l.length ≤ Rows.uptoBulk d) ∧ (L.ts.length ≤ Rows.uptoBulk d ∧ ∀ x ∈ L.ts, x.l.length ≤ Rows.uptoBulk d) ∧ L.ks.length ≤ Rows.uptoBulk d := by
  obtain ⟨xs, n', rfl, hx, hl, hxl, hfi⟩ := DataW.trod_struct Tryd.underlying36 h
  have e2 : Tryd.prog.cellsOf 36 = 29 := by kernel_rfl
  rw [e2] at hl
  match cs, hl with
  | [x0, x1, x2, x3, x4, x5, x6, x7, x8, x9, x10, x11, x12, x13, x14, x15, x16, x17, x18, x19, x20, x21, x22, x23, x24, x25, x26, x27, x28], _ =>
    match xs, hxl with
    | [y0, y1, y2, y3, y4, y5, y6, y7, y8, y9, y10, y11, y12, y13, y14, y15], _ =>
      have g0 := hfi 0 _ rfl
      have g1 := hfi 1 _ rfl
      have g2 := hfi 2 _ rfl
      have g3 := hfi 3 _ rfl
      have g4 := hfi 4 _ rfl
      have g5 := hfi 5 _ rfl
      have g6 := hfi 6 _ rfl
      have g7 := hfi 7 _ rfl
      have g8 := hfi 8 _ rfl
      have g9 := hfi 9 _ rfl
      have g10 := hfi 10 _ rfl
      have g11 := hfi 11 _ rfl
      have g12 := hfi 12 _ rfl
      have g13 := hfi 13 _ rfl
      have g14 := hfi 14 _ rfl
      have g15 := hfi 15 _ rfl
      have z0 : Tryd.prog.cellsOf 3 = 1 := by kernel_rfl
      have z1 : Tryd.prog.cellsOf 22 = 1 := by kernel_rfl
      have z2 : Tryd.prog.cellsOf 25 = 7 := by kernel_rfl
      have z3 : Tryd.prog.cellsOf 31 = 8 := by kernel_rfl
      have z4 : Tryd.prog.cellsOf 9 = 1 := by kernel_rfl
      have z5 : Tryd.prog.cellsOf 32 = 1 := by kernel_rfl
      have z6 : Tryd.prog.cellsOf 33 = 1 := by kernel_rfl
      have z7 : Tryd.prog.cellsOf 4 = 1 := by kernel_rfl
      have z8 : Tryd.prog.cellsOf 34 = 1 := by kernel_rfl
      simp [z0, z1, z2, z3, z4, z5, z6, z7, z8] at g0
      simp [z0, z1, z2, z3, z4, z5, z6, z7, z8] at g1
      simp [z0, z1, z2, z3, z4, z5, z6, z7, z8] at g2
      simp [z0, z1, z2, z3, z4, z5, z6, z7, z8] at g3
      simp [z0, z1, z2, z3, z4, z5, z6, z7, z8] at g4
      simp [z0, z1, z2, z3, z4, z5, z6, z7, z8] at g5
      simp [z0, z1, z2, z3, z4, z5, z6, z7, z8] at g6
      simp [z0, z1, z2, z3, z4, z5, z6, z7, z8] at g7
      simp [z0, z1, z2, z3, z4, z5, z6, z7, z8] at g8
      simp [z0, z1, z2, z3, z4, z5, z6, z7, z8] at g9
      simp [z0, z1, z2, z3, z4, z5, z6, z7, z8] at g10
      simp [z0, z1, z2, z3, z4, z5, z6, z7, z8] at g11
      simp [z0, z1, z2, z3, z4, z5, z6, z7, z8] at g12
      simp [z0, z1, z2, z3, z4, z5, z6, z7, z8] at g13
      simp [z0, z1, z2, z3, z4, z5, z6, z7, z8] at g14
      simp [z0, z1, z2, z3, z4, z5, z6, z7, z8] at g15
      obtain ⟨v0, k0, _⟩ := DataW.trod_int Tryd.underlying3 g0
      obtain ⟨v1, k1, _⟩ := DataW.trod_int Tryd.underlying22 g1
      obtain ⟨ver, bn, meth, pass, mech, cred, hasc, k2⟩ := bind_of (d := y2.1) (p := y2.2) g2
      obtain ⟨base, scope, deref, slim, tlim, typ, fa, fs, fc, aa, al, ac, k3, hF, lF, bF, hA, bA⟩ := search_of (d := y3.1) (p := y3.2) g3
      obtain ⟨v4, k4, q4, _⟩ := DataW.trod_string Tryd.underlying9 g4
      obtain ⟨ca, cs, cc, k5, hC, lC, bC⟩ := chgs_of (d := y5.1) (p := y5.2) g5
      obtain ⟨ta, ts, tc, k6, hT, lT, bT⟩ := atts_of (d := y6.1) (p := y6.2) g6
      obtain ⟨v7, k7, q7, _⟩ := DataW.trod_string Tryd.underlying9 g7
      obtain ⟨v8, k8, _⟩ := DataW.trod_bool Tryd.underlying4 g8
      obtain ⟨v9, k9, q9, _⟩ := DataW.trod_string Tryd.underlying9 g9
      obtain ⟨v10, k10, _⟩ := DataW.trod_bool Tryd.underlying4 g10
      obtain ⟨v11, k11, q11, _⟩ := DataW.trod_string Tryd.underlying9 g11
      obtain ⟨v12, k12, q12, _⟩ := DataW.trod_string Tryd.underlying9 g12
      obtain ⟨v13, k13, _⟩ := DataW.trod_bool Tryd.underlying4 g13
      obtain ⟨v14, k14, _⟩ := DataW.trod_int Tryd.underlying3 g14
      obtain ⟨ka, ks, kc, k15, hK, bK⟩ := ctls_of (d := y15.1) (p := y15.2) g15
      simp at k0 k1 k2 k3 k4 k7 k8 k9 k10 k11 k12 k13 k14
      injection hx with hx _
      have hd : Rows.uptoBulk y3.1 ≤ Rows.uptoBulk d ∧ Rows.uptoBulk y5.1 ≤ Rows.uptoBulk d ∧ Rows.uptoBulk y6.1 ≤ Rows.uptoBulk d ∧ Rows.uptoBulk y15.1 ≤ Rows.uptoBulk d := by
        rw [hx]
        simp [Rows.uptoBulk, Rows.uptoBulkAll]
        omega
      obtain ⟨d1, d2, d3, d4⟩ := hd
      refine ⟨⟨v0, v1, ver, bn, meth, pass, mech, cred, hasc, base, scope, deref, slim, tlim, typ, v4, v7, v8, v9, v10, v11, v12, v13, v14⟩, ⟨fa, fc, fs, aa, ac, al, ca, cc, cs, ta, tc, ts, ka, kc, ks⟩, ?_, ⟨hF, hA, hC, hT, hK⟩, ⟨Nat.le_trans bF d1, fun x hx => Nat.le_trans (lF x hx) d1⟩, Nat.le_trans bA d1, ⟨Nat.le_trans bC d2, fun x hx => Nat.le_trans (lC x hx) d2⟩, ⟨Nat.le_trans bT d3, fun x hx => Nat.le_trans (lT x hx) d3⟩, Nat.le_trans bK d4⟩
      dsimp only [rq]
      simp [*]
set_option maxRecDepth 100000 in
theorem req_of {H : Type} {enc : TypeId × Value → H} {w : World} {base : Nat} {spare : Nat → Bool} {held : Bool} {r : Reach} {b0 : Nat} {v : Value} {d : DataW H} {p : List MemPlace}
    (hval : Value.okWide Tryd.prog w r b0 36 v) (h : DataW.Trod enc Tryd.prog w base spare held 36 v d p) (hd : Rows.uptoBulk d ≤ 1048576) : ∃ q L, v = .agg (rq q L) ∧ LRd w L ∧ LSm L := by
  obtain ⟨cs, rfl, hsz⟩ := okWide_struct Tryd.underlying36 hval
  obtain ⟨fuel, hf⟩ := h
  obtain ⟨q, L, e, h1, ⟨a1, a2⟩, a3, ⟨a4, a5⟩, ⟨a6, a7⟩, a8⟩ := reqc_of (cs := cs.toList) (by simpa [Value.cells] using hf)
  refine ⟨q, L, ?_, h1, ⟨by omega, fun x hx => Nat.le_trans (a2 x hx) hd⟩, by omega, ⟨by omega, fun x hx => Nat.le_trans (a5 x hx) hd⟩, ⟨by omega, fun x hx => Nat.le_trans (a7 x hx) hd⟩, by omega⟩
  congr 1
  apply Array.toList_inj.1
  exact e
end Go.Proofs.YtembeinglnojkaaDoor
