import Derived.Test.YthbncinmkkipeaaPgOpen
import Derived.Test.YthbncinmkkipeaaPgCuS
namespace Go.Proofs.Ythbncinmkkipeaa
open Go.RowKit Go.WideShapes
set_option linter.unusedVariables false
set_option maxRecDepth 100000 in
theorem op_of {H : Type} {enc : TypeId × Value → H} {w : World} {base : Nat} {spare : Nat → Bool} {held : Bool} {n : Nat} {cs : List Value} {d : DataW H} {p : List MemPlace}
    (h : DataW.trod enc Try.prog w base spare held n 36 cs = some (d, p)) : ∃ k x : Int, cs = [.int .i64 k, .int .i64 x] := by
  obtain ⟨xs, n', rfl, hx, hl, hxl, hfi⟩ := DataW.trod_struct Try.underlying36 h
  have e2 : Try.prog.cellsOf 36 = 2 := by kernel_rfl
  rw [e2] at hl
  match cs, hl with
  | [x0, x1], _ =>
    match xs, hxl with
    | [y0, y1], _ =>
      have g0 := hfi 0 _ rfl
      have g1 := hfi 1 _ rfl
      have z0 : Try.prog.cellsOf 3 = 1 := by kernel_rfl
      have z1 : Try.prog.cellsOf 2 = 1 := by kernel_rfl
      simp [z0] at g0
      simp [z1] at g1
      obtain ⟨k, hk, _⟩ := DataW.trod_int Try.underlying3 g0
      obtain ⟨x, hx', _⟩ := DataW.trod_int Try.underlying2 g1
      simp at hk hx'
      exact ⟨k, x, by rw [hk, hx']⟩
set_option maxRecDepth 100000 in
theorem ops_of {H : Type} {enc : TypeId × Value → H} {w : World} {base : Nat} {spare : Nat → Bool} {held : Bool} {a : Option Addr} {l c : Nat} {d : DataW H} {p : List MemPlace}
    (hw : ∀ n ∈ d.weights Try.prog 31, n ≤ reachBytes) (h : DataW.Trod enc Try.prog w base spare held 31 (.slice a l c) d p) : ∃ K X, OpsAt w a l K X ∧ l * 16 ≤ 140737488355328 := by
  obtain ⟨fuel, hf⟩ := h
  have e2 : Try.prog.cellsOf 36 = 2 := by kernel_rfl
  rcases Deep.open_slice Try.underlying31 hf with ⟨hcs, hx⟩ | ⟨x, l', c', m, n, D, Pl, hcs, _, hl, _, hm, hxd, hx⟩
  · simp [Value.cells] at hcs
    obtain ⟨rfl, rfl, rfl⟩ := hcs
    exact ⟨fun _ => 0, fun _ => 0, fun i hi => by omega, Nat.zero_le _⟩
  · simp [Value.cells] at hcs
    obtain ⟨rfl, rfl, rfl⟩ := hcs
    injection hxd with hxd _
    rw [e2] at hx
    have key : ∀ i, i < l → ∃ q : Int × Int, w.cell? ((x.add (i * 2)).add 0) = some (.int .i64 q.1) ∧ w.cell? ((x.add (i * 2)).add 1) = some (.int .i64 q.2) := fun i hi => by
      have him : i < m := by rw [hm]; split <;> omega
      obtain ⟨cs', h1, h2⟩ := hx i him
      obtain ⟨k, y, rfl⟩ := op_of h2
      obtain ⟨_, _, h3⟩ := World.cells?_some h1
      exact ⟨(k, y), h3 0 (by omega), h3 1 (by omega)⟩
    obtain ⟨Q, hQ⟩ := Deep.choose_lt key
    refine ⟨fun i => (Q i).1, fun i => (Q i).2, fun i hi => ?_, ?_⟩
    · obtain ⟨h0, h1⟩ := hQ i hi
      obtain ⟨b, off, spot⟩ := x
      have hspot : spot = none := by
        have h0 := (hQ 0 (by omega)).1
        have := World.cell?_spot h0
        simpa [Addr.add] using this
      subst hspot
      rw [add_off, add_off] at h0 h1
      exact ⟨b, off, rfl, h0, h1⟩
    · have hb : Try.prog.bytesOf 36 = 16 := by kernel_rfl
      have := hw ((((List.range l).map D).length + ((List.range (m - l)).map fun j => D (l + j)).length) * 16) (by
        rw [hxd]
        simp only [DataW.weights, Try.underlying31, hb]
        exact List.mem_cons_self ..)
      have e : reachBytes ≤ 140737488355328 := by decide
      simp at this ⊢
      omega
end Go.Proofs.Ythbncinmkkipeaa
