import Derived.Test.YtembeinglnojkaaDoorMgReq
import Derived.Test.YtembeinglnojkaaDoorRows
import Derived.OpenShut
import Derived.ShutString
import Derived.SizedLaws
import Derived.Deep.Slices
namespace Go.Proofs.YtembeinglnojkaaDoor
open Go.RowKit Go.WideShapes
set_option linter.unusedVariables false
set_option linter.unusedSimpArgs false

theorem mem_weights {H : Type} {P : Program} {e : TypeId} {n : Nat} : ∀ {l : List (DataW H)} {d : DataW H}, d ∈ l → n ∈ d.weights P e → n ∈ DataW.weightsAll P e l
  | x :: l, d, hd, hn => by
    rw [DataW.weightsAll, List.mem_append]
    rcases List.mem_cons.1 hd with rfl | hd
    · exact Or.inl hn
    · exact Or.inr (mem_weights hd hn)
/-- Nothing that it reads is greater than the form's reach. -/
abbrev Wt {H : Type} (t : TypeId) (d : DataW H) : Prop := ∀ n ∈ d.weights Tryd.prog t, n ≤ reachBytes
theorem rowc_of {H : Type} {enc : TypeId × Value → H} {w : World} {base : Nat} {spare : Nat → Bool} {held : Bool} {fuel : Nat} {v : Value} {d : DataW H} {p : List MemPlace} (hw : Wt 29 d)
    (hf : DataW.trod enc Tryd.prog w base spare held fuel 29 [v] = some (d, p)) :
    ∃ a l cap, v = .slice a l.length cap ∧ Row w a l ∧ l.length ≤ 8796093021952 := by
  have e1 : Tryd.prog.cellsOf 9 = 1 := by kernel_rfl
  have hb : Tryd.prog.bytesOf 9 = 16 := by kernel_rfl
  rcases Deep.open_slice1 Tryd.underlying29 e1 hf with ⟨hcs, hx⟩ | ⟨x, len, c, m, n, V, D, Pl, hcs, _, hl, _, hm, hxd, hx⟩
  · simp at hcs
    subst hcs
    exact ⟨none, [], 0, rfl, Row.nil _ _, Nat.zero_le _⟩
  · simp at hcs
    subst hcs
    have key : ∀ i, i < len → ∃ q : ByteArray, w.cell? (x.add i) = some (.string q) := fun i hi => by
      have him : i < m := by rw [hm]; split <;> omega
      obtain ⟨h1, h2⟩ := hx i him
      obtain ⟨s, hs, _, _⟩ := DataW.trod_string Tryd.underlying9 h2
      simp at hs
      exact ⟨s, by rw [h1, hs]⟩
    obtain ⟨Q, hQ⟩ := Deep.choose_lt key
    injection hxd with hxd _
    refine ⟨some x, (List.range len).map fun i => (Q i).data.toList, c, by simp, ?_, ?_⟩
    · intro i hi
      have hi' : i < len := by simpa using hi
      have h1 := hQ i hi'
      obtain ⟨b, off, spot⟩ := x
      have hspot : spot = none := by
        have h0 := hQ 0 (by omega)
        have := World.cell?_spot h0
        simpa [Addr.add] using this
      subst hspot
      rw [add_off] at h1
      refine ⟨b, off, rfl, ?_⟩
      rw [h1]
      simp [S_of]
    · have := hw ((((List.range len).map D).length + ((List.range (m - len)).map fun j => D (len + j)).length) * 16) (by
        rw [hxd]
        simp only [DataW.weights, Tryd.underlying29, hb]
        exact List.mem_cons_self ..)
      simp only [List.length_map, List.length_range] at this ⊢
      unfold reachBytes at this
      omega
theorem rows_of {α : Type} (z0 : α) (V : α → List Value) (k nb : Nat) (P : α → Prop) {t ts : TypeId} (hund : Tryd.prog.underlying ts = some (.slice t)) (hcl : Tryd.prog.cellsOf t = k) (hby : Tryd.prog.bytesOf t = nb) (hk : 0 < k) (hV : ∀ x, (V x).length = k) (h0 : ∀ x, ∃ u, (V x)[0]? = some u)
    {H : Type} {enc : TypeId × Value → H} {w : World} {base : Nat} {spare : Nat → Bool} {held : Bool} {fuel : Nat} {v : Value} {d : DataW H} {p : List MemPlace} (hw : Wt ts d)
    (elem : ∀ n cs (d : DataW H) p, Wt t d → DataW.trod enc Tryd.prog w base spare held n t cs = some (d, p) → ∃ x, cs = V x ∧ P x)
    (hf : DataW.trod enc Tryd.prog w base spare held fuel ts [v] = some (d, p)) : ∃ a xs cap, v = .slice a xs.length cap ∧ GRow k V w a xs ∧ (∀ x ∈ xs, P x) ∧ xs.length * nb ≤ 140737488351232 := by
  rcases Deep.open_slice hund hf with ⟨hcs, hx⟩ | ⟨x, l, c, m, n, D, Pl, hcs, _, hl, _, hm, hxd, hx⟩
  · simp at hcs
    subst hcs
    exact ⟨none, [], 0, rfl, GRow.nil _ _ _ _, fun x hx => by simp at hx, by simp⟩
  · simp at hcs
    subst hcs
    rw [hcl] at hx
    injection hxd with hxd _
    have key : ∀ i, i < l → ∃ q : α, (∀ j, j < k → w.cell? ((x.add (i * k)).add j) = (V q)[j]?) ∧ P q := fun i hi => by
      have him : i < m := by rw [hm]; split <;> omega
      obtain ⟨cs', h1, h2⟩ := hx i him
      obtain ⟨q, rfl, hr⟩ := elem _ _ _ _ (fun n' hn' => hw n' (by
        rw [hxd]
        simp only [DataW.weights, hund]
        exact List.mem_cons_of_mem _ (List.mem_append.2 (Or.inl (mem_weights (List.mem_map.2 ⟨i, List.mem_range.2 hi, rfl⟩) hn'))))) h2
      obtain ⟨_, _, h3⟩ := World.cells?_some h1
      exact ⟨q, h3, hr⟩
    haveI : Inhabited α := ⟨z0⟩
    obtain ⟨Q, hQ⟩ := Deep.choose_lt key
    have hsz := hw ((((List.range l).map D).length + ((List.range (m - l)).map fun j => D (l + j)).length) * nb) (by
      rw [hxd]
      simp only [DataW.weights, hund, hby]
      exact List.mem_cons_self ..)
    refine ⟨some x, (List.range l).map Q, c, by simp, fun i hi => ?_, fun z hz => ?_, ?_⟩
    · have hi' : i < l := by simpa using hi
      obtain ⟨h1, _⟩ := hQ i hi'
      obtain ⟨b, off, spot⟩ := x
      have hspot : spot = none := by
        have h2 := (hQ 0 (by omega)).1 0 hk
        obtain ⟨u, hu⟩ := h0 (Q 0)
        rw [hu] at h2
        have := World.cell?_spot h2
        simpa [Addr.add] using this
      subst hspot
      have e : ((List.range l).map Q)[i] = Q i := by simp
      rw [e]
      refine ⟨b, off, rfl, fun j hj => ?_⟩
      have := h1 j hj
      rw [add_off, add_off] at this
      exact this
    · obtain ⟨i, hi, rfl⟩ := List.mem_map.1 hz
      have hi' : i < l := by simpa using hi
      exact (hQ i hi').2
    · simp only [List.length_map, List.length_range] at hsz ⊢
      unfold reachBytes at hsz
      exact Nat.le_trans (Nat.mul_le_mul_right nb (Nat.le_add_right l (m - l))) hsz
set_option maxRecDepth 100000 in
set_option maxHeartbeats 1000000 in
theorem pat_of {H : Type} {enc : TypeId × Value → H} {w : World} {base : Nat} {spare : Nat → Bool} {held : Bool} {n : Nat} {cs : List Value} {d : DataW H} {p : List MemPlace} (hw : Wt 69 d)
    (h : DataW.trod enc Tryd.prog w base spare held n 69 cs = some (d, p)) : ∃ (i f : List UInt8) (a : Option Addr) (k : Nat) (l : List (List UInt8)), cs = [.string (S i), .slice a l.length k, .string (S f)] ∧ Row w a l ∧ l.length ≤ 8796093021952 := by
  obtain ⟨xs, n', rfl, hx, hl, hxl, hfi⟩ := DataW.trod_struct Tryd.underlying69 h
  have e2 : Tryd.prog.cellsOf 69 = 3 := by kernel_rfl
  rw [e2] at hl
  match cs, hl with
  | [x0, x1, x2], _ =>
    match xs, hxl with
    | [y0, y1, y2], _ =>
      injection hx with hx _
      rw [hx] at hw
      simp only [Wt, DataW.weights, Tryd.underlying69] at hw
      have g0 := hfi 0 _ rfl
      have g1 := hfi 1 _ rfl
      have g2 := hfi 2 _ rfl
      have z0 : Tryd.prog.cellsOf 9 = 1 := by kernel_rfl
      have z1 : Tryd.prog.cellsOf 29 = 1 := by kernel_rfl
      simp [z0, z1] at g0
      simp [z0, z1] at g1
      simp [z0, z1] at g2
      obtain ⟨v0, k0, q0, _⟩ := DataW.trod_string Tryd.underlying9 g0
      obtain ⟨aa, al, ac, k1, hA, bA⟩ := rowc_of (d := y1.1) (p := y1.2) (fun n hn => hw n (DataW.weights_mem_each (j := 1) (t := 29) (d := y1.1) rfl rfl n hn)) g1
      obtain ⟨v2, k2, q2, _⟩ := DataW.trod_string Tryd.underlying9 g2
      simp at k0 k2
      exact ⟨v0.data.toList, v2.data.toList, aa, ac, al, by rw [k0, k1, k2]; simp [S_of], hA, bA⟩
set_option maxRecDepth 100000 in
set_option maxHeartbeats 1000000 in
theorem nod_of {H : Type} {enc : TypeId × Value → H} {w : World} {base : Nat} {spare : Nat → Bool} {held : Bool} {n : Nat} {cs : List Value} {d : DataW H} {p : List MemPlace} (hw : Wt 72 d)
    (h : DataW.trod enc Tryd.prog w base spare held n 72 cs = some (d, p)) : ∃ x : Nod, cs = nV x ∧ Row w x.a x.l ∧ x.l.length ≤ 8796093021952 := by
  obtain ⟨xs, n', rfl, hx, hl, hxl, hfi⟩ := DataW.trod_struct Tryd.underlying72 h
  have e2 : Tryd.prog.cellsOf 72 = 9 := by kernel_rfl
  rw [e2] at hl
  match cs, hl with
  | [x0, x1, x2, x3, x4, x5, x6, x7, x8], _ =>
    match xs, hxl with
    | [y0, y1, y2, y3, y4, y5, y6], _ =>
      injection hx with hx _
      rw [hx] at hw
      simp only [Wt, DataW.weights, Tryd.underlying72] at hw
      have g0 := hfi 0 _ rfl
      have g1 := hfi 1 _ rfl
      have g2 := hfi 2 _ rfl
      have g3 := hfi 3 _ rfl
      have g4 := hfi 4 _ rfl
      have g5 := hfi 5 _ rfl
      have g6 := hfi 6 _ rfl
      have z0 : Tryd.prog.cellsOf 3 = 1 := by kernel_rfl
      have z1 : Tryd.prog.cellsOf 70 = 1 := by kernel_rfl
      have z2 : Tryd.prog.cellsOf 9 = 1 := by kernel_rfl
      have z3 : Tryd.prog.cellsOf 69 = 3 := by kernel_rfl
      have z4 : Tryd.prog.cellsOf 4 = 1 := by kernel_rfl
      simp [z0, z1, z2, z3, z4] at g0
      simp [z0, z1, z2, z3, z4] at g1
      simp [z0, z1, z2, z3, z4] at g2
      simp [z0, z1, z2, z3, z4] at g3
      simp [z0, z1, z2, z3, z4] at g4
      simp [z0, z1, z2, z3, z4] at g5
      simp [z0, z1, z2, z3, z4] at g6
      obtain ⟨v0, k0, _⟩ := DataW.trod_int Tryd.underlying3 g0
      obtain ⟨v1, k1, _⟩ := DataW.trod_int Tryd.underlying70 g1
      obtain ⟨v2, k2, q2, _⟩ := DataW.trod_string Tryd.underlying9 g2
      obtain ⟨v3, k3, q3, _⟩ := DataW.trod_string Tryd.underlying9 g3
      obtain ⟨pi, pf, aa, ac, al, k4, hA, bA⟩ := pat_of (d := y4.1) (p := y4.2) (fun n hn => hw n (DataW.weights_mem_each (j := 4) (t := 69) (d := y4.1) rfl rfl n hn)) g4
      obtain ⟨v5, k5, q5, _⟩ := DataW.trod_string Tryd.underlying9 g5
      obtain ⟨v6, k6, _⟩ := DataW.trod_bool Tryd.underlying4 g6
      simp at k0 k1 k2 k3 k4 k5 k6
      obtain ⟨k4, k7, k8⟩ := k4
      refine ⟨⟨v0, v1, v2.data.toList, v3.data.toList, pi, aa, ac, al, pf, v5.data.toList, v6⟩, ?_, hA, bA⟩
      rw [k0, k1, k2, k3, k4, k5, k6, k7, k8]
      simp [nV, S_of]
set_option maxRecDepth 100000 in
set_option maxHeartbeats 1000000 in
theorem chg_of {H : Type} {enc : TypeId × Value → H} {w : World} {base : Nat} {spare : Nat → Bool} {held : Bool} {n : Nat} {cs : List Value} {d : DataW H} {p : List MemPlace} (hw : Wt 74 d)
    (h : DataW.trod enc Tryd.prog w base spare held n 74 cs = some (d, p)) : ∃ x : Chg, cs = cV x ∧ Row w x.a x.l ∧ x.l.length ≤ 8796093021952 := by
  obtain ⟨xs, n', rfl, hx, hl, hxl, hfi⟩ := DataW.trod_struct Tryd.underlying74 h
  have e2 : Tryd.prog.cellsOf 74 = 3 := by kernel_rfl
  rw [e2] at hl
  match cs, hl with
  | [x0, x1, x2], _ =>
    match xs, hxl with
    | [y0, y1, y2], _ =>
      injection hx with hx _
      rw [hx] at hw
      simp only [Wt, DataW.weights, Tryd.underlying74] at hw
      have g0 := hfi 0 _ rfl
      have g1 := hfi 1 _ rfl
      have g2 := hfi 2 _ rfl
      have z0 : Tryd.prog.cellsOf 3 = 1 := by kernel_rfl
      have z1 : Tryd.prog.cellsOf 9 = 1 := by kernel_rfl
      have z2 : Tryd.prog.cellsOf 29 = 1 := by kernel_rfl
      simp [z0, z1, z2] at g0
      simp [z0, z1, z2] at g1
      simp [z0, z1, z2] at g2
      obtain ⟨v0, k0, _⟩ := DataW.trod_int Tryd.underlying3 g0
      obtain ⟨v1, k1, q1, _⟩ := DataW.trod_string Tryd.underlying9 g1
      obtain ⟨aa, al, ac, k2, hA, bA⟩ := rowc_of (d := y2.1) (p := y2.2) (fun n hn => hw n (DataW.weights_mem_each (j := 2) (t := 29) (d := y2.1) rfl rfl n hn)) g2
      simp at k0 k1
      exact ⟨⟨v0, v1.data.toList, aa, ac, al⟩, by rw [k0, k1, k2]; simp [cV, S_of], hA, bA⟩
set_option maxRecDepth 100000 in
set_option maxHeartbeats 1000000 in
theorem att_of {H : Type} {enc : TypeId × Value → H} {w : World} {base : Nat} {spare : Nat → Bool} {held : Bool} {n : Nat} {cs : List Value} {d : DataW H} {p : List MemPlace} (hw : Wt 76 d)
    (h : DataW.trod enc Tryd.prog w base spare held n 76 cs = some (d, p)) : ∃ x : Att, cs = tV x ∧ Row w x.a x.l ∧ x.l.length ≤ 8796093021952 := by
  obtain ⟨xs, n', rfl, hx, hl, hxl, hfi⟩ := DataW.trod_struct Tryd.underlying76 h
  have e2 : Tryd.prog.cellsOf 76 = 3 := by kernel_rfl
  rw [e2] at hl
  match cs, hl with
  | [x0, x1, x2], _ =>
    match xs, hxl with
    | [y0, y1, y2], _ =>
      injection hx with hx _
      rw [hx] at hw
      simp only [Wt, DataW.weights, Tryd.underlying76] at hw
      have g0 := hfi 0 _ rfl
      have g1 := hfi 1 _ rfl
      have g2 := hfi 2 _ rfl
      have z0 : Tryd.prog.cellsOf 9 = 1 := by kernel_rfl
      have z1 : Tryd.prog.cellsOf 29 = 1 := by kernel_rfl
      simp [z0, z1] at g0
      simp [z0, z1] at g1
      simp [z0, z1] at g2
      obtain ⟨v0, k0, q0, _⟩ := DataW.trod_string Tryd.underlying9 g0
      obtain ⟨v1, k1, q1, _⟩ := DataW.trod_string Tryd.underlying9 g1
      obtain ⟨aa, al, ac, k2, hA, bA⟩ := rowc_of (d := y2.1) (p := y2.2) (fun n hn => hw n (DataW.weights_mem_each (j := 2) (t := 29) (d := y2.1) rfl rfl n hn)) g2
      simp at k0 k1
      exact ⟨⟨v0.data.toList, v1.data.toList, aa, ac, al⟩, by rw [k0, k1, k2]; simp [tV, S_of], hA, bA⟩
set_option maxRecDepth 100000 in
set_option maxHeartbeats 1000000 in
theorem ctl_of {H : Type} {enc : TypeId × Value → H} {w : World} {base : Nat} {spare : Nat → Bool} {held : Bool} {n : Nat} {cs : List Value} {d : DataW H} {p : List MemPlace} (hw : Wt 52 d)
    (h : DataW.trod enc Tryd.prog w base spare held n 52 cs = some (d, p)) : ∃ x : Ctl, cs = oV x := by
  obtain ⟨xs, n', rfl, hx, hl, hxl, hfi⟩ := DataW.trod_struct Tryd.underlying52 h
  have e2 : Tryd.prog.cellsOf 52 = 4 := by kernel_rfl
  rw [e2] at hl
  match cs, hl with
  | [x0, x1, x2, x3], _ =>
    match xs, hxl with
    | [y0, y1, y2, y3], _ =>
      injection hx with hx _
      rw [hx] at hw
      simp only [Wt, DataW.weights, Tryd.underlying52] at hw
      have g0 := hfi 0 _ rfl
      have g1 := hfi 1 _ rfl
      have g2 := hfi 2 _ rfl
      have g3 := hfi 3 _ rfl
      have z0 : Tryd.prog.cellsOf 9 = 1 := by kernel_rfl
      have z1 : Tryd.prog.cellsOf 4 = 1 := by kernel_rfl
      simp [z0, z1] at g0
      simp [z0, z1] at g1
      simp [z0, z1] at g2
      simp [z0, z1] at g3
      obtain ⟨v0, k0, q0, _⟩ := DataW.trod_string Tryd.underlying9 g0
      obtain ⟨v1, k1, _⟩ := DataW.trod_bool Tryd.underlying4 g1
      obtain ⟨v2, k2, q2, _⟩ := DataW.trod_string Tryd.underlying9 g2
      obtain ⟨v3, k3, _⟩ := DataW.trod_bool Tryd.underlying4 g3
      simp at k0 k1 k2 k3
      exact ⟨⟨v0.data.toList, v1, v2.data.toList, v3⟩, by rw [k0, k1, k2, k3]; simp [oV, S_of]⟩
set_option maxRecDepth 100000 in
set_option maxHeartbeats 1000000 in
theorem bind_of {H : Type} {enc : TypeId × Value → H} {w : World} {base : Nat} {spare : Nat → Bool} {held : Bool} {n : Nat} {cs : List Value} {d : DataW H} {p : List MemPlace} (hw : Wt 25 d)
    (h : DataW.trod enc Tryd.prog w base spare held n 25 cs = some (d, p)) : ∃ ver bn meth pass mech cred hasc, cs = [.int .i64 ver, .string bn, .int .i64 meth, .string pass, .string mech, .string cred, .bool hasc] := by
  obtain ⟨xs, n', rfl, hx, hl, hxl, hfi⟩ := DataW.trod_struct Tryd.underlying25 h
  have e2 : Tryd.prog.cellsOf 25 = 7 := by kernel_rfl
  rw [e2] at hl
  match cs, hl with
  | [x0, x1, x2, x3, x4, x5, x6], _ =>
    match xs, hxl with
    | [y0, y1, y2, y3, y4, y5, y6], _ =>
      injection hx with hx _
      rw [hx] at hw
      simp only [Wt, DataW.weights, Tryd.underlying25] at hw
      have g0 := hfi 0 _ rfl
      have g1 := hfi 1 _ rfl
      have g2 := hfi 2 _ rfl
      have g3 := hfi 3 _ rfl
      have g4 := hfi 4 _ rfl
      have g5 := hfi 5 _ rfl
      have g6 := hfi 6 _ rfl
      have z0 : Tryd.prog.cellsOf 3 = 1 := by kernel_rfl
      have z1 : Tryd.prog.cellsOf 9 = 1 := by kernel_rfl
      have z2 : Tryd.prog.cellsOf 23 = 1 := by kernel_rfl
      have z3 : Tryd.prog.cellsOf 4 = 1 := by kernel_rfl
      simp [z0, z1, z2, z3] at g0
      simp [z0, z1, z2, z3] at g1
      simp [z0, z1, z2, z3] at g2
      simp [z0, z1, z2, z3] at g3
      simp [z0, z1, z2, z3] at g4
      simp [z0, z1, z2, z3] at g5
      simp [z0, z1, z2, z3] at g6
      obtain ⟨v0, k0, _⟩ := DataW.trod_int Tryd.underlying3 g0
      obtain ⟨v1, k1, q1, _⟩ := DataW.trod_string Tryd.underlying9 g1
      obtain ⟨v2, k2, _⟩ := DataW.trod_int Tryd.underlying23 g2
      obtain ⟨v3, k3, q3, _⟩ := DataW.trod_string Tryd.underlying9 g3
      obtain ⟨v4, k4, q4, _⟩ := DataW.trod_string Tryd.underlying9 g4
      obtain ⟨v5, k5, q5, _⟩ := DataW.trod_string Tryd.underlying9 g5
      obtain ⟨v6, k6, _⟩ := DataW.trod_bool Tryd.underlying4 g6
      simp at k0 k1 k2 k3 k4 k5 k6
      exact ⟨v0, v1, v2, v3, v4, v5, v6, by rw [k0, k1, k2, k3, k4, k5, k6]⟩
theorem nodg_of {H : Type} {enc : TypeId × Value → H} {w : World} {base : Nat} {spare : Nat → Bool} {held : Bool} {fuel : Nat} {v : Value} {d : DataW H} {p : List MemPlace} (hw : Wt 28 d)
    (hf : DataW.trod enc Tryd.prog w base spare held fuel 28 [v] = some (d, p)) : ∃ a xs cap, v = .slice a xs.length cap ∧ RdG 9 nV nT w a xs ∧ (∀ x ∈ xs, x.l.length ≤ 8796093021952) ∧ xs.length ≤ 1099511627744 := by
  obtain ⟨a, xs, c, e, h1, h2, h3⟩ := rows_of (⟨0, 0, [], [], [], none, 0, [], [], [], false⟩ : Nod) nV 9 128 (fun x => Row w x.a x.l ∧ x.l.length ≤ 8796093021952) Tryd.underlying28 (by kernel_rfl) (by kernel_rfl) (by decide) nV_len (fun x => ⟨_, rfl⟩) hw (fun n cs d p hd h => by obtain ⟨x, e, h1, h2⟩ := nod_of hd h; exact ⟨x, e, h1, h2⟩) hf
  exact ⟨a, xs, c, e, ⟨h1, fun x hx => (h2 x hx).1⟩, fun x hx => (h2 x hx).2, by omega⟩
theorem chgs_of {H : Type} {enc : TypeId × Value → H} {w : World} {base : Nat} {spare : Nat → Bool} {held : Bool} {fuel : Nat} {v : Value} {d : DataW H} {p : List MemPlace} (hw : Wt 32 d)
    (hf : DataW.trod enc Tryd.prog w base spare held fuel 32 [v] = some (d, p)) : ∃ a xs cap, v = .slice a xs.length cap ∧ RdG 3 cV cT w a xs ∧ (∀ x ∈ xs, x.l.length ≤ 8796093021952) ∧ xs.length ≤ 2932031007317 := by
  obtain ⟨a, xs, c, e, h1, h2, h3⟩ := rows_of (⟨0, [], none, 0, []⟩ : Chg) cV 3 48 (fun x => Row w x.a x.l ∧ x.l.length ≤ 8796093021952) Tryd.underlying32 (by kernel_rfl) (by kernel_rfl) (by decide) cV_len (fun x => ⟨_, rfl⟩) hw (fun n cs d p hd h => by obtain ⟨x, e, h1, h2⟩ := chg_of hd h; exact ⟨x, e, h1, h2⟩) hf
  exact ⟨a, xs, c, e, ⟨h1, fun x hx => (h2 x hx).1⟩, fun x hx => (h2 x hx).2, by omega⟩
theorem atts_of {H : Type} {enc : TypeId × Value → H} {w : World} {base : Nat} {spare : Nat → Bool} {held : Bool} {fuel : Nat} {v : Value} {d : DataW H} {p : List MemPlace} (hw : Wt 33 d)
    (hf : DataW.trod enc Tryd.prog w base spare held fuel 33 [v] = some (d, p)) : ∃ a xs cap, v = .slice a xs.length cap ∧ RdG 3 tV tT w a xs ∧ (∀ x ∈ xs, x.l.length ≤ 8796093021952) ∧ xs.length ≤ 2513169434843 := by
  obtain ⟨a, xs, c, e, h1, h2, h3⟩ := rows_of (⟨[], [], none, 0, []⟩ : Att) tV 3 56 (fun x => Row w x.a x.l ∧ x.l.length ≤ 8796093021952) Tryd.underlying33 (by kernel_rfl) (by kernel_rfl) (by decide) tV_len (fun x => ⟨_, rfl⟩) hw (fun n cs d p hd h => by obtain ⟨x, e, h1, h2⟩ := att_of hd h; exact ⟨x, e, h1, h2⟩) hf
  exact ⟨a, xs, c, e, ⟨h1, fun x hx => (h2 x hx).1⟩, fun x hx => (h2 x hx).2, by omega⟩
theorem ctls_of {H : Type} {enc : TypeId × Value → H} {w : World} {base : Nat} {spare : Nat → Bool} {held : Bool} {fuel : Nat} {v : Value} {d : DataW H} {p : List MemPlace} (hw : Wt 34 d)
    (hf : DataW.trod enc Tryd.prog w base spare held fuel 34 [v] = some (d, p)) : ∃ a xs cap, v = .slice a xs.length cap ∧ GRow 4 oV w a xs ∧ xs.length ≤ 2932031007317 := by
  obtain ⟨a, xs, c, e, h1, h2, h3⟩ := rows_of (⟨[], false, [], false⟩ : Ctl) oV 4 48 (fun x => True) Tryd.underlying34 (by kernel_rfl) (by kernel_rfl) (by decide) oV_len (fun x => ⟨_, rfl⟩) hw (fun n cs d p hd h => by obtain ⟨x, e⟩ := ctl_of hd h; exact ⟨x, e, trivial⟩) hf
  exact ⟨a, xs, c, e, h1, by omega⟩
set_option maxRecDepth 100000 in
set_option maxHeartbeats 1000000 in
theorem search_of {H : Type} {enc : TypeId × Value → H} {w : World} {base : Nat} {spare : Nat → Bool} {held : Bool} {n : Nat} {cs : List Value} {d : DataW H} {p : List MemPlace} (hw : Wt 31 d)
    (h : DataW.trod enc Tryd.prog w base spare held n 31 cs = some (d, p)) : ∃ base scope deref slim tlim typ fa fs fc aa al ac, cs = [.string base, .int .i64 scope, .int .i64 deref, .int .i64 slim, .int .i64 tlim, .bool typ, .slice fa (fs : List Nod).length fc, .slice aa (al : List (List UInt8)).length ac] ∧ RdG 9 nV nT w fa fs ∧ (∀ x ∈ fs, x.l.length ≤ 8796093021952) ∧ fs.length ≤ 1099511627744 ∧ Row w aa al ∧ al.length ≤ 8796093021952 := by
  obtain ⟨xs, n', rfl, hx, hl, hxl, hfi⟩ := DataW.trod_struct Tryd.underlying31 h
  have e2 : Tryd.prog.cellsOf 31 = 8 := by kernel_rfl
  rw [e2] at hl
  match cs, hl with
  | [x0, x1, x2, x3, x4, x5, x6, x7], _ =>
    match xs, hxl with
    | [y0, y1, y2, y3, y4, y5, y6, y7], _ =>
      injection hx with hx _
      rw [hx] at hw
      simp only [Wt, DataW.weights, Tryd.underlying31] at hw
      have g0 := hfi 0 _ rfl
      have g1 := hfi 1 _ rfl
      have g2 := hfi 2 _ rfl
      have g3 := hfi 3 _ rfl
      have g4 := hfi 4 _ rfl
      have g5 := hfi 5 _ rfl
      have g6 := hfi 6 _ rfl
      have g7 := hfi 7 _ rfl
      have z0 : Tryd.prog.cellsOf 9 = 1 := by kernel_rfl
      have z1 : Tryd.prog.cellsOf 26 = 1 := by kernel_rfl
      have z2 : Tryd.prog.cellsOf 3 = 1 := by kernel_rfl
      have z3 : Tryd.prog.cellsOf 4 = 1 := by kernel_rfl
      have z4 : Tryd.prog.cellsOf 28 = 1 := by kernel_rfl
      have z5 : Tryd.prog.cellsOf 29 = 1 := by kernel_rfl
      simp [z0, z1, z2, z3, z4, z5] at g0
      simp [z0, z1, z2, z3, z4, z5] at g1
      simp [z0, z1, z2, z3, z4, z5] at g2
      simp [z0, z1, z2, z3, z4, z5] at g3
      simp [z0, z1, z2, z3, z4, z5] at g4
      simp [z0, z1, z2, z3, z4, z5] at g5
      simp [z0, z1, z2, z3, z4, z5] at g6
      simp [z0, z1, z2, z3, z4, z5] at g7
      obtain ⟨v0, k0, q0, _⟩ := DataW.trod_string Tryd.underlying9 g0
      obtain ⟨v1, k1, _⟩ := DataW.trod_int Tryd.underlying26 g1
      obtain ⟨v2, k2, _⟩ := DataW.trod_int Tryd.underlying3 g2
      obtain ⟨v3, k3, _⟩ := DataW.trod_int Tryd.underlying3 g3
      obtain ⟨v4, k4, _⟩ := DataW.trod_int Tryd.underlying3 g4
      obtain ⟨v5, k5, _⟩ := DataW.trod_bool Tryd.underlying4 g5
      obtain ⟨fa, fs, fc, k6, hF, lF, bF⟩ := nodg_of (d := y6.1) (p := y6.2) (fun n hn => hw n (DataW.weights_mem_each (j := 6) (t := 28) (d := y6.1) rfl rfl n hn)) g6
      obtain ⟨aa, al, ac, k7, hA, bA⟩ := rowc_of (d := y7.1) (p := y7.2) (fun n hn => hw n (DataW.weights_mem_each (j := 7) (t := 29) (d := y7.1) rfl rfl n hn)) g7
      simp at k0 k1 k2 k3 k4 k5
      exact ⟨v0, v1, v2, v3, v4, v5, fa, fs, fc, aa, al, ac, by rw [k0, k1, k2, k3, k4, k5, k6, k7], hF, lF, bF, hA, bA⟩
set_option maxRecDepth 100000 in
set_option maxHeartbeats 1000000 in
theorem reqc_of {H : Type} {enc : TypeId × Value → H} {w : World} {base : Nat} {spare : Nat → Bool} {held : Bool} {n : Nat} {cs : List Value} {d : DataW H} {p : List MemPlace} (hw : Wt 36 d)
    (h : DataW.trod enc Tryd.prog w base spare held n 36 cs = some (d, p)) : ∃ q L, cs = (rq q L).toList ∧ LRd w L ∧ LSm L := by
  obtain ⟨xs, n', rfl, hx, hl, hxl, hfi⟩ := DataW.trod_struct Tryd.underlying36 h
  have e2 : Tryd.prog.cellsOf 36 = 29 := by kernel_rfl
  rw [e2] at hl
  match cs, hl with
  | [x0, x1, x2, x3, x4, x5, x6, x7, x8, x9, x10, x11, x12, x13, x14, x15, x16, x17, x18, x19, x20, x21, x22, x23, x24, x25, x26, x27, x28], _ =>
    match xs, hxl with
    | [y0, y1, y2, y3, y4, y5, y6, y7, y8, y9, y10, y11, y12, y13, y14, y15], _ =>
      injection hx with hx _
      rw [hx] at hw
      simp only [Wt, DataW.weights, Tryd.underlying36] at hw
      have g0 := hfi 0 _ rfl
      have g1 := hfi 1 _ rfl
      have g2 := hfi 2 _ rfl
      have g3 := hfi 3 _ rfl
      have g4 := hfi 4 _ rfl
      have g5 := hfi 5 _ rfl
      have g6 := hfi 6 _ rfl
      have g7 := hfi 7 _ rfl
      have g8 := hfi 8 _ rfl
      have g9 := hfi 9 _ rfl
      have g10 := hfi 10 _ rfl
      have g11 := hfi 11 _ rfl
      have g12 := hfi 12 _ rfl
      have g13 := hfi 13 _ rfl
      have g14 := hfi 14 _ rfl
      have g15 := hfi 15 _ rfl
      have z0 : Tryd.prog.cellsOf 3 = 1 := by kernel_rfl
      have z1 : Tryd.prog.cellsOf 22 = 1 := by kernel_rfl
      have z2 : Tryd.prog.cellsOf 25 = 7 := by kernel_rfl
      have z3 : Tryd.prog.cellsOf 31 = 8 := by kernel_rfl
      have z4 : Tryd.prog.cellsOf 9 = 1 := by kernel_rfl
      have z5 : Tryd.prog.cellsOf 32 = 1 := by kernel_rfl
      have z6 : Tryd.prog.cellsOf 33 = 1 := by kernel_rfl
      have z7 : Tryd.prog.cellsOf 4 = 1 := by kernel_rfl
      have z8 : Tryd.prog.cellsOf 34 = 1 := by kernel_rfl
      simp [z0, z1, z2, z3, z4, z5, z6, z7, z8] at g0
      simp [z0, z1, z2, z3, z4, z5, z6, z7, z8] at g1
      simp [z0, z1, z2, z3, z4, z5, z6, z7, z8] at g2
      simp [z0, z1, z2, z3, z4, z5, z6, z7, z8] at g3
      simp [z0, z1, z2, z3, z4, z5, z6, z7, z8] at g4
      simp [z0, z1, z2, z3, z4, z5, z6, z7, z8] at g5
      simp [z0, z1, z2, z3, z4, z5, z6, z7, z8] at g6
      simp [z0, z1, z2, z3, z4, z5, z6, z7, z8] at g7
      simp [z0, z1, z2, z3, z4, z5, z6, z7, z8] at g8
      simp [z0, z1, z2, z3, z4, z5, z6, z7, z8] at g9
      simp [z0, z1, z2, z3, z4, z5, z6, z7, z8] at g10
      simp [z0, z1, z2, z3, z4, z5, z6, z7, z8] at g11
      simp [z0, z1, z2, z3, z4, z5, z6, z7, z8] at g12
      simp [z0, z1, z2, z3, z4, z5, z6, z7, z8] at g13
      simp [z0, z1, z2, z3, z4, z5, z6, z7, z8] at g14
      simp [z0, z1, z2, z3, z4, z5, z6, z7, z8] at g15
      obtain ⟨v0, k0, _⟩ := DataW.trod_int Tryd.underlying3 g0
      obtain ⟨v1, k1, _⟩ := DataW.trod_int Tryd.underlying22 g1
      obtain ⟨ver, bn, meth, pass, mech, cred, hasc, k2⟩ := bind_of (d := y2.1) (p := y2.2) (fun n hn => hw n (DataW.weights_mem_each (j := 2) (t := 25) (d := y2.1) rfl rfl n hn)) g2
      obtain ⟨base, scope, deref, slim, tlim, typ, fa, fs, fc, aa, al, ac, k3, hF, lF, bF, hA, bA⟩ := search_of (d := y3.1) (p := y3.2) (fun n hn => hw n (DataW.weights_mem_each (j := 3) (t := 31) (d := y3.1) rfl rfl n hn)) g3
      obtain ⟨v4, k4, q4, _⟩ := DataW.trod_string Tryd.underlying9 g4
      obtain ⟨ca, cs, cc, k5, hC, lC, bC⟩ := chgs_of (d := y5.1) (p := y5.2) (fun n hn => hw n (DataW.weights_mem_each (j := 5) (t := 32) (d := y5.1) rfl rfl n hn)) g5
      obtain ⟨ta, ts, tc, k6, hT, lT, bT⟩ := atts_of (d := y6.1) (p := y6.2) (fun n hn => hw n (DataW.weights_mem_each (j := 6) (t := 33) (d := y6.1) rfl rfl n hn)) g6
      obtain ⟨v7, k7, q7, _⟩ := DataW.trod_string Tryd.underlying9 g7
      obtain ⟨v8, k8, _⟩ := DataW.trod_bool Tryd.underlying4 g8
      obtain ⟨v9, k9, q9, _⟩ := DataW.trod_string Tryd.underlying9 g9
      obtain ⟨v10, k10, _⟩ := DataW.trod_bool Tryd.underlying4 g10
      obtain ⟨v11, k11, q11, _⟩ := DataW.trod_string Tryd.underlying9 g11
      obtain ⟨v12, k12, q12, _⟩ := DataW.trod_string Tryd.underlying9 g12
      obtain ⟨v13, k13, _⟩ := DataW.trod_bool Tryd.underlying4 g13
      obtain ⟨v14, k14, _⟩ := DataW.trod_int Tryd.underlying3 g14
      obtain ⟨ka, ks, kc, k15, hK, bK⟩ := ctls_of (d := y15.1) (p := y15.2) (fun n hn => hw n (DataW.weights_mem_each (j := 15) (t := 34) (d := y15.1) rfl rfl n hn)) g15
      simp at k0 k1 k2 k3 k4 k7 k8 k9 k10 k11 k12 k13 k14
      refine ⟨⟨v0, v1, ver, bn, meth, pass, mech, cred, hasc, base, scope, deref, slim, tlim, typ, v4, v7, v8, v9, v10, v11, v12, v13, v14⟩, ⟨fa, fc, fs, aa, ac, al, ca, cc, cs, ta, tc, ts, ka, kc, ks⟩, ?_, ⟨hF, hA, hC, hT, hK⟩, ⟨bF, lF⟩, bA, ⟨bC, lC⟩, ⟨bT, lT⟩, bK⟩
      dsimp only [rq]
      simp [*]
set_option maxRecDepth 100000 in
theorem req_of {H : Type} {enc : TypeId × Value → H} {w : World} {base : Nat} {spare : Nat → Bool} {held : Bool} {r : Reach} {b0 : Nat} {v : Value} {d : DataW H} {p : List MemPlace}
    (hval : Value.okWide Tryd.prog w r b0 36 v) (h : DataW.Trod enc Tryd.prog w base spare held 36 v d p) (hw : Wt 36 d) : ∃ q L, v = .agg (rq q L) ∧ LRd w L ∧ LSm L := by
  obtain ⟨cs, rfl, hsz⟩ := okWide_struct Tryd.underlying36 hval
  obtain ⟨fuel, hf⟩ := h
  obtain ⟨q, L, e, h1, h2⟩ := reqc_of (cs := cs.toList) hw (by simpa [Value.cells] using hf)
  refine ⟨q, L, ?_, h1, h2⟩
  congr 1
  apply Array.toList_inj.1
  exact e
end Go.Proofs.YtembeinglnojkaaDoor
