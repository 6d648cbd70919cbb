import Derived.Test.YtgfonnjblbpogaaBhSpW
import Derived.Test.YtgfonnjblbpogaaBhOpen
import Derived.OpenShut
import Derived.Deep.Slices
namespace Go.Proofs.Ytgfonnjblbpogaa
open Go.RowKit
theorem fints_of {H : Type} {enc : TypeId × Value → H} {P : Program} {w : World} {base : Nat} {spare : Nat → Bool} {held : Bool} {t e : TypeId} {a : Option Addr} {len cap : Nat} {d : DataW H} {p : List MemPlace}
    (ht : P.underlying t = some (.slice e)) (he : P.underlying e = some (.int .i64)) (hc : P.cellsOf e = 1) (h : DataW.Trod enc P w base spare held t (.slice a len cap) d p) : ∃ F, FInts w a len F := by
  obtain ⟨fuel, hf⟩ := h
  have key : ∀ i, i < len → ∃ v : Int, ∃ b off, a = some ⟨b, off, none⟩ ∧ w.cell? ⟨b, off + i, none⟩ = some (.int .i64 v) := by
    rcases Deep.open_slice1 ht hc hf with ⟨hcs, _⟩ | ⟨x, l, c, m, n, V, D, Pl, hcs, _, hl, _, hm, _, hx⟩
    · simp [Value.cells] at hcs
      obtain ⟨_, rfl, _⟩ := hcs
      intro i hi; omega
    · simp [Value.cells] at hcs
      obtain ⟨rfl, rfl, rfl⟩ := hcs
      intro i hi
      have him : i < m := by rw [hm]; split <;> omega
      obtain ⟨h1, h2⟩ := hx i him
      obtain ⟨v, hv, _⟩ := DataW.trod_int he h2
      obtain ⟨b, off, spot⟩ := x
      have hspot : spot = none := by
        have h0 := (hx 0 (by omega)).1
        have := World.cell?_spot h0
        simpa [Addr.add] using this
      subst hspot
      refine ⟨v, b, off, rfl, ?_⟩
      have e : (⟨b, off, none⟩ : Addr).add i = ⟨b, off + i, none⟩ := by
        unfold Addr.add
        by_cases h0 : i = 0
        · subst h0; rfl
        · simp [h0]
      rw [e] at h1
      rw [h1]
      simp at hv
      rw [hv]
  obtain ⟨F, hF⟩ := Deep.choose_lt key
  exact ⟨F, hF⟩
end Go.Proofs.Ytgfonnjblbpogaa
