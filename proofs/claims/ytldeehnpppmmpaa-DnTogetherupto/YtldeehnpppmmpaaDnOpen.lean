import Derived.Test.YtldeehnpppmmpaaDnRow
import Derived.Test.YtldeehnpppmmpaaRows
import Derived.OpenShut
import Derived.ShutString
import Derived.SizedLaws
import Derived.Deep.Slices
namespace Go.Proofs.Ytldeehnpppmmpaa
open Go.RowKit

theorem bulk_len {H : Type} : ∀ es : List (DataW H), es.length ≤ Rows.uptoBulkAll es
  | [] => Nat.le_refl _
  | d :: es => by
    have h1 := bulk_len es
    have h2 : 1 ≤ Rows.uptoBulk d := by
      cases d <;> first | (simp [Rows.uptoBulk]; done) | (rename_i x; cases x <;> simp [Rows.uptoBulk])
    simp only [List.length_cons, Rows.uptoBulkAll]
    omega

theorem row_of {H : Type} {enc : TypeId × Value → H} {w : World} {base : Nat} {spare : Nat → Bool} {held : Bool} {a : Option Addr} {len cap : Nat} {d : DataW H} {p : List MemPlace}
    (h : DataW.Trod enc Try.prog w base spare held 22 (.slice a len cap) d p) :
    ∃ l, len = l.length ∧ Row w a l ∧ len ≤ cap ∧ len ≤ Rows.uptoBulk d ∧ (len = 0 ∨ ∃ es sp, d = .slice es sp ∧ es.length = len) := by
  obtain ⟨fuel, hf⟩ := h
  have e1 : Try.prog.cellsOf 9 = 1 := by kernel_rfl
  rcases Deep.open_slice1 Try.underlying22 e1 hf with ⟨hcs, hx⟩ | ⟨x, l, c, m, n, V, D, Pl, hcs, _, hl, _, hm, hxd, hx⟩
  · simp [Value.cells] at hcs
    obtain ⟨_, rfl, rfl⟩ := hcs
    exact ⟨[], rfl, Row.nil _ _, Nat.le_refl _, Nat.zero_le _, Or.inl rfl⟩
  · simp [Value.cells] at hcs
    obtain ⟨rfl, rfl, rfl⟩ := hcs
    have key : ∀ i, i < len → ∃ q : ByteArray, w.cell? (x.add i) = some (.string q) := fun i hi => by
      have him : i < m := by rw [hm]; split <;> omega
      obtain ⟨h1, h2⟩ := hx i him
      obtain ⟨s, hs, _, _⟩ := DataW.trod_string Try.underlying9 h2
      simp at hs
      exact ⟨s, by rw [h1, hs]⟩
    obtain ⟨Q, hQ⟩ := Deep.choose_lt key
    injection hxd with hxd _
    refine ⟨(List.range len).map fun i => (Q i).data.toList, by simp, ?_, hl, ?_, Or.inr ⟨_, _, hxd, by simp⟩⟩
    · intro i hi
      have hi' : i < len := by simpa using hi
      have h1 := hQ i hi'
      obtain ⟨b, off, spot⟩ := x
      have hspot : spot = none := by
        have h0 := hQ 0 (by omega)
        have := World.cell?_spot h0
        simpa [Addr.add] using this
      subst hspot
      rw [add_off] at h1
      refine ⟨b, off, rfl, ?_⟩
      rw [h1]
      simp [S_of]
    · rw [hxd]
      have := bulk_len ((List.range len).map D)
      rw [List.length_map, List.length_range] at this
      simp only [Rows.uptoBulk]
      omega

theorem sized_row {H : Type} {ts : List TypeId} {ds : List (DataW H)} (h : (DataW.weightsEach Try.prog ts ds).all (· ≤ reachBytes) = true) {j len : Nat} {d : DataW H} (ht : ts[j]? = some 22) (hd : ds[j]? = some d)
    (hf : len = 0 ∨ ∃ es sp, d = .slice es sp ∧ es.length = len) : (len + 1) * 16 ≤ 140737488355328 := by
  rcases hf with rfl | ⟨es, sp, rfl, rfl⟩
  · decide
  · have z := sized_slice h ht hd Try.underlying22
    have hb : Try.prog.bytesOf 9 = 16 := by kernel_rfl
    rw [hb] at z
    unfold reachBytes at z
    omega
end Go.Proofs.Ytldeehnpppmmpaa
