import Derived.Test.YtddkefjcpgdomabFrEnds
import Derived.OpenShut
import Derived.ShutString
import Derived.Deep.Slices
namespace Go.Proofs.Ytddkefjcpgdomab
open Go.RowKit

theorem isStrs_of {H : Type} {enc : TypeId × Value → H} {P : Program} {w : World} {base : Nat} {spare : Nat → Bool} {held : Bool} {t e : TypeId} {a : Option Addr} {len cap : Nat} {d : DataW H} {p : List MemPlace}
    (ht : P.underlying t = some (.slice e)) (he : P.underlying e = some .string) (hc : P.cellsOf e = 1) (h : DataW.Trod enc P w base spare held t (.slice a len cap) d p) : IsStrs w a len ∧ len ≤ 9223372036854775807 := by
  obtain ⟨fuel, hf⟩ := h
  rcases Deep.open_slice1 ht hc hf with ⟨hcs, hx⟩ | ⟨x, l, c, m, n, V, D, Pl, hcs, _, hl, hmax, hm, hxd, hx⟩
  · simp [Value.cells] at hcs
    obtain ⟨_, rfl, _⟩ := hcs
    exact ⟨fun i hi => by omega, by omega⟩
  · simp [Value.cells] at hcs
    obtain ⟨rfl, rfl, rfl⟩ := hcs
    refine ⟨fun i hi => ?_, by unfold maxLen at hmax; omega⟩
    have him : i < m := by rw [hm]; split <;> omega
    obtain ⟨h1, h2⟩ := hx i him
    obtain ⟨v, hv, _⟩ := DataW.trod_string he h2
    obtain ⟨b, off, spot⟩ := x
    have hspot : spot = none := by
      have h0 := (hx 0 (by omega)).1
      have := World.cell?_spot h0
      simpa [Addr.add] using this
    subst hspot
    refine ⟨b, off, v, rfl, ?_⟩
    rw [add_off] at h1
    rw [h1]
    simp at hv
    rw [hv]
end Go.Proofs.Ytddkefjcpgdomab
