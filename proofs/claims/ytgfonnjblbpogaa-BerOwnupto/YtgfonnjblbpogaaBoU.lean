import Derived.Test.YtgfonnjblbpogaaBhNodes
import Derived.Test.YtgfonnjblbpogaaRows
import Derived.OpenShut
import Derived.ShutString
import Derived.SizedLaws
import Derived.Deep.Slices
namespace Go.Proofs.Ytgfonnjblbpogaa
namespace BoU
open Go.RowKit Go.WideShapes
set_option linter.unusedVariables false

theorem add_at (b off k : Nat) : (⟨b, off, none⟩ : Addr).add k = ⟨b, off + k, none⟩ := by
  unfold Addr.add
  by_cases h : k = 0
  · subst h; rfl
  · simp [h]
theorem bulk_each {H : Type} (D : Nat → DataW H) (l : Nat) : ∀ i, i < l → Rows.uptoBulk (D i) ≤ Rows.uptoBulkAll ((List.range l).map D) := by
  have app : ∀ (a b : List (DataW H)), Rows.uptoBulkAll (a ++ b) = Rows.uptoBulkAll a + Rows.uptoBulkAll b := by
    intro a b
    induction a with
    | nil => simp [Rows.uptoBulkAll]
    | cons d a ih => simp only [List.cons_append, Rows.uptoBulkAll, ih]; omega
  induction l with
  | zero => intro i hi; omega
  | succ l ih =>
    intro i hi
    rw [List.range_succ, List.map_append, app]
    simp only [List.map_cons, List.map_nil, Rows.uptoBulkAll]
    by_cases e : i = l
    · subst e; omega
    · have := ih i (by omega); omega
theorem bulk_many {H : Type} (D : Nat → DataW H) (l : Nat) (h : ∀ i, i < l → 1 ≤ Rows.uptoBulk (D i)) : l ≤ Rows.uptoBulkAll ((List.range l).map D) := by
  have app : ∀ (a b : List (DataW H)), Rows.uptoBulkAll (a ++ b) = Rows.uptoBulkAll a + Rows.uptoBulkAll b := by
    intro a b
    induction a with
    | nil => simp [Rows.uptoBulkAll]
    | cons d a ih => simp only [List.cons_append, Rows.uptoBulkAll, ih]; omega
  induction l with
  | zero => exact Nat.zero_le _
  | succ l ih =>
    rw [List.range_succ, List.map_append, app]
    simp only [List.map_cons, List.map_nil, Rows.uptoBulkAll]
    have h1 := ih (fun i hi => h i (by omega))
    have h2 := h l (by omega)
    omega

set_option maxRecDepth 100000 in
theorem node_up {H : Type} {enc : TypeId × Value → H} {w : World} {base : Nat} {spare : Nat → Bool} {held : Bool} {n : Nat} {cs : List Value} {d : DataW H} {p : List MemPlace}
    (h : DataW.trod enc Try.prog w base spare held n 39 cs = some (d, p)) : ∃ (dp c : Int) (m : Bool) (t : Int) (s : ByteArray), cs = [.int .i64 dp, .int .i64 c, .bool m, .int .i64 t, .string s] ∧ Rows.uptoBulk d = s.size + 6 := by
  obtain ⟨xs, n', rfl, hx, hl, hxl, hfi⟩ := DataW.trod_struct Try.underlying39 h
  have e5 : Try.prog.cellsOf 39 = 5 := by kernel_rfl
  rw [e5] at hl
  match cs, hl with
  | [x0, x1, x2, x3, x4], _ =>
    match xs, hxl with
    | [y0, y1, y2, y3, y4], _ =>
      have g0 := hfi 0 _ rfl
      have g1 := hfi 1 _ rfl
      have g2 := hfi 2 _ rfl
      have g3 := hfi 3 _ rfl
      have g4 := hfi 4 _ rfl
      have z0 : Try.prog.cellsOf 3 = 1 := by kernel_rfl
      have z1 : Try.prog.cellsOf 27 = 1 := by kernel_rfl
      have z2 : Try.prog.cellsOf 4 = 1 := by kernel_rfl
      have z4 : Try.prog.cellsOf 9 = 1 := by kernel_rfl
      simp [z0] at g0
      simp [z1] at g1
      simp [z2] at g2
      simp [z0] at g3
      simp [z4] at g4
      obtain ⟨dp, hd, hd2, _⟩ := DataW.trod_int Try.underlying3 g0
      obtain ⟨c, hc, hc2, _⟩ := DataW.trod_int Try.underlying27 g1
      obtain ⟨m, hm, hm2⟩ := DataW.trod_bool Try.underlying4 g2
      obtain ⟨t, ht, ht2, _⟩ := DataW.trod_int Try.underlying3 g3
      obtain ⟨s, hs, hs2, _⟩ := DataW.trod_string Try.underlying9 g4
      simp at hd hc hm ht hs
      refine ⟨dp, c, m, t, s, by rw [hd, hc, hm, ht, hs], ?_⟩
      injection hx with hx _
      rw [hx, hd2, hc2, hm2, ht2, hs2]
      simp [Rows.uptoBulk, Rows.uptoBulkAll]
      omega
set_option maxRecDepth 100000 in
theorem nodes_up {H : Type} {enc : TypeId × Value → H} {w : World} {base : Nat} {spare : Nat → Bool} {held : Bool} {a : Option Addr} {l c : Nat} {d : DataW H} {p : List MemPlace}
    (h : DataW.Trod enc Try.prog w base spare held 33 (.slice a l c) d p) :
    ∃ D C T M B, IsNodes w a l D C T M B ∧ l ≤ Rows.uptoBulk d ∧ ∀ i, i < l → (B i).size ≤ Rows.uptoBulk d := by
  obtain ⟨fuel, hf⟩ := h
  have e5 : Try.prog.cellsOf 39 = 5 := by kernel_rfl
  rcases Deep.open_slice Try.underlying33 hf with ⟨hcs, hx⟩ | ⟨x, l', c', m, n, D, Pl, hcs, _, hl, _, hm, hxd, hx⟩
  · simp [Value.cells] at hcs
    obtain ⟨rfl, rfl, rfl⟩ := hcs
    exact ⟨fun _ => 0, fun _ => 0, fun _ => 0, fun _ => false, fun _ => ⟨#[]⟩, fun i hi => by omega, Nat.zero_le _, fun i hi => by omega⟩
  · simp [Value.cells] at hcs
    obtain ⟨rfl, rfl, rfl⟩ := hcs
    injection hxd with hxd _
    rw [e5] at hx
    have key : ∀ i, i < l → ∃ q : Int × Int × Bool × Int × ByteArray, w.cell? ((x.add (i * 5)).add 0) = some (.int .i64 q.1) ∧ w.cell? ((x.add (i * 5)).add 1) = some (.int .i64 q.2.1) ∧ w.cell? ((x.add (i * 5)).add 2) = some (.bool q.2.2.1) ∧ w.cell? ((x.add (i * 5)).add 3) = some (.int .i64 q.2.2.2.1) ∧ w.cell? ((x.add (i * 5)).add 4) = some (.string q.2.2.2.2) ∧ Rows.uptoBulk (D i) = q.2.2.2.2.size + 6 := fun i hi => by
      have him : i < m := by rw [hm]; split <;> omega
      obtain ⟨cs', h1, h2⟩ := hx i him
      obtain ⟨dp, cl, mm, t, s, rfl, hmem⟩ := node_up h2
      obtain ⟨_, _, h3⟩ := World.cells?_some h1
      exact ⟨(dp, cl, mm, t, s), h3 0 (by omega), h3 1 (by omega), h3 2 (by omega), h3 3 (by omega), h3 4 (by omega), hmem⟩
    obtain ⟨Q, hQ⟩ := Deep.choose_lt key
    have hall : Rows.uptoBulkAll ((List.range l).map D) ≤ Rows.uptoBulk d := by
      rw [hxd]
      simp only [Rows.uptoBulk]
      omega
    refine ⟨fun i => (Q i).1, fun i => (Q i).2.1, fun i => (Q i).2.2.2.1, fun i => (Q i).2.2.1, fun i => (Q i).2.2.2.2, fun i hi => ?_, ?_, fun i hi => ?_⟩
    · obtain ⟨h0, h1, h2, h3, h4, _⟩ := hQ i hi
      obtain ⟨b, off, spot⟩ := x
      have hspot : spot = none := by
        have h0 := (hQ 0 (by omega)).1
        have := World.cell?_spot h0
        simpa [Addr.add] using this
      subst hspot
      rw [add_at, add_at] at h0 h1 h2 h3 h4
      exact ⟨b, off, rfl, h0, h1, h2, h3, h4⟩
    · have := bulk_many D l (fun i hi => by rw [(hQ i hi).2.2.2.2.2]; omega)
      omega
    · have h1 := bulk_each D l i hi
      rw [(hQ i hi).2.2.2.2.2] at h1
      show (Q i).2.2.2.2.size ≤ _
      omega
end BoU
end Go.Proofs.Ytgfonnjblbpogaa
