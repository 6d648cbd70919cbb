import Derived.Test.YtgfonnjblbpogaaBhNodes
import Derived.Test.YtgfonnjblbpogaaRows
import Derived.OpenShut
import Derived.ShutString
import Derived.SizedLaws
import Derived.Deep.Slices
namespace Go.Proofs.Ytgfonnjblbpogaa
open Go.RowKit Go.WideShapes
set_option linter.unusedVariables false

theorem add_at (b off k : Nat) : (⟨b, off, none⟩ : Addr).add k = ⟨b, off + k, none⟩ := by
  unfold Addr.add
  by_cases h : k = 0
  · subst h; rfl
  · simp [h]
theorem mem_weights {H : Type} {P : Program} {e : TypeId} {n : Nat} : ∀ {l : List (DataW H)} {d : DataW H}, d ∈ l → n ∈ d.weights P e → n ∈ DataW.weightsAll P e l
  | x :: l, d, hd, hn => by
    rw [DataW.weightsAll, List.mem_append]
    rcases List.mem_cons.1 hd with rfl | hd
    · exact Or.inl hn
    · exact Or.inr (mem_weights hd hn)
set_option maxRecDepth 100000 in
theorem node_of {H : Type} {enc : TypeId × Value → H} {w : World} {base : Nat} {spare : Nat → Bool} {held : Bool} {n : Nat} {cs : List Value} {d : DataW H} {p : List MemPlace}
    (h : DataW.trod enc Try.prog w base spare held n 39 cs = some (d, p)) : ∃ (dp c : Int) (m : Bool) (t : Int) (s : ByteArray), cs = [.int .i64 dp, .int .i64 c, .bool m, .int .i64 t, .string s] ∧ s.size ∈ d.weights Try.prog 39 := by
  obtain ⟨xs, n', rfl, hx, hl, hxl, hfi⟩ := DataW.trod_struct Try.underlying39 h
  have e5 : Try.prog.cellsOf 39 = 5 := by kernel_rfl
  rw [e5] at hl
  match cs, hl with
  | [x0, x1, x2, x3, x4], _ =>
    match xs, hxl with
    | [y0, y1, y2, y3, y4], _ =>
      have g0 := hfi 0 _ rfl
      have g1 := hfi 1 _ rfl
      have g2 := hfi 2 _ rfl
      have g3 := hfi 3 _ rfl
      have g4 := hfi 4 _ rfl
      have z0 : Try.prog.cellsOf 3 = 1 := by kernel_rfl
      have z1 : Try.prog.cellsOf 27 = 1 := by kernel_rfl
      have z2 : Try.prog.cellsOf 4 = 1 := by kernel_rfl
      have z4 : Try.prog.cellsOf 9 = 1 := by kernel_rfl
      simp [z0] at g0
      simp [z1] at g1
      simp [z2] at g2
      simp [z0] at g3
      simp [z4] at g4
      obtain ⟨dp, hd, _⟩ := DataW.trod_int Try.underlying3 g0
      obtain ⟨c, hc, _⟩ := DataW.trod_int Try.underlying27 g1
      obtain ⟨m, hm, _⟩ := DataW.trod_bool Try.underlying4 g2
      obtain ⟨t, ht, _⟩ := DataW.trod_int Try.underlying3 g3
      obtain ⟨s, hs, hs2, _⟩ := DataW.trod_string Try.underlying9 g4
      simp at hd hc hm ht hs
      refine ⟨dp, c, m, t, s, by rw [hd, hc, hm, ht, hs], ?_⟩
      injection hx with hx _
      rw [hx]
      simp only [DataW.weights, Try.underlying39]
      refine DataW.weights_mem_each (j := 4) (t := 9) (d := y4.1) rfl rfl _ ?_
      rw [hs2]
      simp [DataW.weights]
      try rw [size_l]
set_option maxRecDepth 100000 in
theorem nodes_of {H : Type} {enc : TypeId × Value → H} {w : World} {base : Nat} {spare : Nat → Bool} {held : Bool} {a : Option Addr} {l c : Nat} {d : DataW H} {p : List MemPlace}
    (hw : ∀ n ∈ d.weights Try.prog 33, n ≤ reachBytes) (h : DataW.Trod enc Try.prog w base spare held 33 (.slice a l c) d p) :
    ∃ D C T M B, IsNodes w a l D C T M B ∧ l ≤ 140737488355328 ∧ ∀ i, i < l → (B i).size ≤ 140737488355328 := by
  obtain ⟨fuel, hf⟩ := h
  have e5 : Try.prog.cellsOf 39 = 5 := by kernel_rfl
  have hb : Try.prog.bytesOf 39 = 48 := by kernel_rfl
  rcases Deep.open_slice Try.underlying33 hf with ⟨hcs, hx⟩ | ⟨x, l', c', m, n, D, Pl, hcs, _, hl, _, hm, hxd, hx⟩
  · simp [Value.cells] at hcs
    obtain ⟨rfl, rfl, rfl⟩ := hcs
    exact ⟨fun _ => 0, fun _ => 0, fun _ => 0, fun _ => false, fun _ => ⟨#[]⟩, fun i hi => by omega, by omega, fun i hi => by omega⟩
  · simp [Value.cells] at hcs
    obtain ⟨rfl, rfl, rfl⟩ := hcs
    injection hxd with hxd _
    rw [e5] at hx
    have key : ∀ i, i < l → ∃ q : Int × Int × Bool × Int × ByteArray, w.cell? ((x.add (i * 5)).add 0) = some (.int .i64 q.1) ∧ w.cell? ((x.add (i * 5)).add 1) = some (.int .i64 q.2.1) ∧ w.cell? ((x.add (i * 5)).add 2) = some (.bool q.2.2.1) ∧ w.cell? ((x.add (i * 5)).add 3) = some (.int .i64 q.2.2.2.1) ∧ w.cell? ((x.add (i * 5)).add 4) = some (.string q.2.2.2.2) ∧ q.2.2.2.2.size ≤ 140737488355328 := fun i hi => by
      have him : i < m := by rw [hm]; split <;> omega
      obtain ⟨cs', h1, h2⟩ := hx i him
      obtain ⟨dp, cl, mm, t, s, rfl, hmem⟩ := node_of h2
      obtain ⟨_, _, h3⟩ := World.cells?_some h1
      have hsz : s.size ≤ reachBytes := hw _ (by
        rw [hxd]
        simp only [DataW.weights, Try.underlying33]
        refine List.mem_cons_of_mem _ (List.mem_append.2 (Or.inl (mem_weights (List.mem_map.2 ⟨i, List.mem_range.2 hi, rfl⟩) hmem))))
      exact ⟨(dp, cl, mm, t, s), h3 0 (by omega), h3 1 (by omega), h3 2 (by omega), h3 3 (by omega), h3 4 (by omega), Nat.le_trans hsz (by decide)⟩
    obtain ⟨Q, hQ⟩ := Deep.choose_lt key
    refine ⟨fun i => (Q i).1, fun i => (Q i).2.1, fun i => (Q i).2.2.2.1, fun i => (Q i).2.2.1, fun i => (Q i).2.2.2.2, fun i hi => ?_, ?_, fun i hi => (hQ i hi).2.2.2.2.2⟩
    · obtain ⟨h0, h1, h2, h3, h4, _⟩ := hQ i hi
      obtain ⟨b, off, spot⟩ := x
      have hspot : spot = none := by
        have h0 := (hQ 0 (by omega)).1
        have := World.cell?_spot h0
        simpa [Addr.add] using this
      subst hspot
      rw [add_at, add_at] at h0 h1 h2 h3 h4
      exact ⟨b, off, rfl, h0, h1, h2, h3, h4⟩
    · have := hw ((((List.range l).map D).length + ((List.range (m - l)).map fun j => D (l + j)).length) * 48) (by
        rw [hxd]
        simp only [DataW.weights, Try.underlying33, hb]
        exact List.mem_cons_self ..)
      simp only [List.length_map, List.length_range] at this
      unfold reachBytes at this
      omega
end Go.Proofs.Ytgfonnjblbpogaa
