import Derived.Test.YtddkefjcpgdomaaFrKeep3
import Derived.Test.YtddkefjcpgdomaaRows
import Derived.OpenShut
import Derived.ShutString
import Derived.Deep.Slices
namespace Go.Proofs.Ytddkefjcpgdomaa
open Go.RowKit

set_option maxRecDepth 100000 in
theorem body_of {H : Type} {enc : TypeId × Value → H} {w : World} {base : Nat} {spare : Nat → Bool} {held : Bool} {n : Nat} {cs : List Value} {d : DataW H} {p : List MemPlace}
    (h : DataW.trod enc Try.prog w base spare held n 42 cs = some (d, p)) : ∃ (f : Int) (s : ByteArray), cs = [.int .i64 f, .string s] ∧ Rows.uptoBulk d = s.size + 3 := by
  obtain ⟨xs, n', rfl, hx, hl, hxl, hfi⟩ := DataW.trod_struct Try.underlying42 h
  have e2 : Try.prog.cellsOf 42 = 2 := by kernel_rfl
  rw [e2] at hl
  match cs, hl with
  | [x0, x1], _ =>
    match xs, hxl with
    | [y0, y1], _ =>
      have g0 := hfi 0 _ rfl
      have g1 := hfi 1 _ rfl
      have z0 : Try.prog.cellsOf 3 = 1 := by kernel_rfl
      have z1 : Try.prog.cellsOf 9 = 1 := by kernel_rfl
      simp [z0] at g0
      simp [z1] at g1
      obtain ⟨f, hf, hf2, _⟩ := DataW.trod_int Try.underlying3 g0
      obtain ⟨s, hs, hs2, _⟩ := DataW.trod_string Try.underlying9 g1
      simp at hf hs
      refine ⟨f, s, by rw [hf, hs], ?_⟩
      injection hx with hx _
      rw [hx, hf2, hs2]
      simp [Rows.uptoBulk, Rows.uptoBulkAll]
      omega

theorem bulk_tot {H : Type} (D : Nat → DataW H) (X : Nat → ByteArray) (l : Nat) (h : ∀ i, i < l → Rows.uptoBulk (D i) = (X i).size + 3) : tot X l ≤ Rows.uptoBulkAll ((List.range l).map D) := by
  have app : ∀ (a b : List (DataW H)), Rows.uptoBulkAll (a ++ b) = Rows.uptoBulkAll a + Rows.uptoBulkAll b := by
    intro a b
    induction a with
    | nil => simp [Rows.uptoBulkAll]
    | cons d a ih => simp only [List.cons_append, Rows.uptoBulkAll, ih]; omega
  induction l with
  | zero => exact Nat.zero_le _
  | succ l ih =>
    rw [List.range_succ, List.map_append, app]
    have h1 := ih (fun i hi => h i (by omega))
    have h2 := h l (by omega)
    show tot X l + ((X l).size + 3) ≤ _
    simp only [List.map_cons, List.map_nil, Rows.uptoBulkAll]
    omega

theorem isBodies_of {H : Type} {enc : TypeId × Value → H} {w : World} {base : Nat} {spare : Nat → Bool} {held : Bool} {a : Option Addr} {len cap : Nat} {d : DataW H} {p : List MemPlace}
    (h : DataW.Trod enc Try.prog w base spare held 37 (.slice a len cap) d p) : ∃ F X, IsBodies w a len F X ∧ tot X len ≤ Rows.uptoBulk d := by
  obtain ⟨fuel, hf⟩ := h
  have e2 : Try.prog.cellsOf 42 = 2 := by kernel_rfl
  rcases Deep.open_slice Try.underlying37 hf with ⟨hcs, hx⟩ | ⟨x, l, c, m, n, D, Pl, hcs, _, hl, _, hm, hxd, hx⟩
  · simp [Value.cells] at hcs
    obtain ⟨_, rfl, _⟩ := hcs
    exact ⟨fun _ => 0, fun _ => ⟨#[]⟩, fun i hi => by omega, Nat.zero_le _⟩
  · simp [Value.cells] at hcs
    obtain ⟨rfl, rfl, rfl⟩ := hcs
    rw [e2] at hx
    have key : ∀ i, i < len → ∃ q : Int × ByteArray, w.cell? ((x.add (i * 2)).add 0) = some (.int .i64 q.1) ∧ w.cell? ((x.add (i * 2)).add 1) = some (.string q.2) ∧ Rows.uptoBulk (D i) = q.2.size + 3 := fun i hi => by
      have him : i < m := by rw [hm]; split <;> omega
      obtain ⟨cs', h1, h2⟩ := hx i him
      obtain ⟨f, s, rfl, hb⟩ := body_of h2
      obtain ⟨_, _, h3⟩ := World.cells?_some h1
      exact ⟨(f, s), h3 0 (by omega), h3 1 (by omega), hb⟩
    obtain ⟨Q, hQ⟩ := Deep.choose_lt key
    refine ⟨fun i => (Q i).1, fun i => (Q i).2, fun i hi => ?_, ?_⟩
    · obtain ⟨h1, h2, _⟩ := hQ i hi
      obtain ⟨b, off, spot⟩ := x
      have hspot : spot = none := by
        have h0 := (hQ 0 (by omega)).1
        have := World.cell?_spot h0
        simpa [Addr.add] using this
      subst hspot
      rw [add_off, add_off] at h1 h2
      exact ⟨b, off, rfl, h1, by rw [← h2]⟩
    · injection hxd with hxd _
      rw [hxd]
      have := bulk_tot D (fun i => (Q i).2) len (fun i hi => (hQ i hi).2.2)
      simp only [Rows.uptoBulk]
      omega
end Go.Proofs.Ytddkefjcpgdomaa
