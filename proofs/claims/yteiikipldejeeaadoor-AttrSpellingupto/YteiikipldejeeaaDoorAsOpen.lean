import Derived.Test.YteiikipldejeeaaDoorAsW
import Derived.Test.YteiikipldejeeaaDoorRows
import Derived.OpenShut
import Derived.ShutString
import Derived.Deep.Slices
namespace Go.Proofs.YteiikipldejeeaaDoor
open Go.RowKit

theorem bulk_tot {H : Type} (D : Nat → DataW H) (X : Nat → ByteArray) (l : Nat) (h : ∀ i, i < l → Rows.uptoBulk (D i) = (X i).size + 1) : totM X l ≤ Rows.uptoBulkAll ((List.range l).map D) := by
  have app : ∀ (a b : List (DataW H)), Rows.uptoBulkAll (a ++ b) = Rows.uptoBulkAll a + Rows.uptoBulkAll b := by
    intro a b
    induction a with
    | nil => simp [Rows.uptoBulkAll]
    | cons d a ih => simp only [List.cons_append, Rows.uptoBulkAll, ih]; omega
  induction l with
  | zero => exact Nat.zero_le _
  | succ l ih =>
    rw [List.range_succ, List.map_append, app]
    have h1 := ih (fun i hi => h i (by omega))
    have h2 := h l (by omega)
    show totM X l + ((X l).size + 1) ≤ _
    simp only [List.map_cons, List.map_nil, Rows.uptoBulkAll]
    omega

set_option maxRecDepth 100000 in
theorem strs_of {H : Type} {enc : TypeId × Value → H} {w : World} {base : Nat} {spare : Nat → Bool} {held : Bool} {a : Option Addr} {len cap : Nat} {d : DataW H} {p : List MemPlace}
    (h : DataW.Trod enc Tryd.prog w base spare held 23 (.slice a len cap) d p) : ∃ X, Strs w a len X ∧ totM X len ≤ Rows.uptoBulk d := by
  obtain ⟨fuel, hf⟩ := h
  have e1 : Tryd.prog.cellsOf 9 = 1 := by kernel_rfl
  rcases Deep.open_slice1 Tryd.underlying23 e1 hf with ⟨hcs, hx⟩ | ⟨x, l, c, m, n, V, D, Pl, hcs, _, hl, _, hm, hxd, hx⟩
  · simp [Value.cells] at hcs
    obtain ⟨_, rfl, _⟩ := hcs
    exact ⟨fun _ => ⟨#[]⟩, fun i hi => by omega, Nat.zero_le _⟩
  · simp [Value.cells] at hcs
    obtain ⟨rfl, rfl, rfl⟩ := hcs
    have key : ∀ i, i < len → ∃ q : ByteArray, w.cell? (x.add i) = some (.string q) ∧ Rows.uptoBulk (D i) = q.size + 1 := fun i hi => by
      have him : i < m := by rw [hm]; split <;> omega
      obtain ⟨h1, h2⟩ := hx i him
      obtain ⟨s, hs, hs2, _⟩ := DataW.trod_string Tryd.underlying9 h2
      simp at hs
      refine ⟨s, by rw [h1, hs], ?_⟩
      injection hs2 with hs2 _
      rw [hs2]
      simp [Rows.uptoBulk]
    obtain ⟨Q, hQ⟩ := Deep.choose_lt key
    refine ⟨Q, fun i hi => ?_, ?_⟩
    · obtain ⟨h1, _⟩ := hQ i hi
      obtain ⟨b, off, spot⟩ := x
      have hspot : spot = none := by
        have h0 := (hQ 0 (by omega)).1
        have := World.cell?_spot h0
        simpa [Addr.add] using this
      subst hspot
      rw [add_off] at h1
      exact ⟨b, off, rfl, h1⟩
    · injection hxd with hxd _
      rw [hxd]
      have := bulk_tot D Q len (fun i hi => (hQ i hi).2)
      simp only [Rows.uptoBulk]
      omega
/-- A slice of bools that came in: where there is an element, its cell holds a bool. -/
def IsBools (w : World) (a : Option Addr) (len : Nat) : Prop := ∀ i, i < len → ∃ b off v, a = some ⟨b, off, none⟩ ∧ w.cell? ⟨b, off + i, none⟩ = some (.bool v)

theorem isBools_of {H : Type} {enc : TypeId × Value → H} {P : Program} {w : World} {base : Nat} {spare : Nat → Bool} {held : Bool} {t e : TypeId} {a : Option Addr} {len cap : Nat} {d : DataW H} {p : List MemPlace}
    (ht : P.underlying t = some (.slice e)) (he : P.underlying e = some .bool) (hc : P.cellsOf e = 1) (h : DataW.Trod enc P w base spare held t (.slice a len cap) d p) : IsBools w a len := by
  obtain ⟨fuel, hf⟩ := h
  rcases Deep.open_slice1 ht hc hf with ⟨hcs, _⟩ | ⟨x, l, c, m, n, V, D, Pl, hcs, _, hl, _, hm, _, hx⟩
  · simp [Value.cells] at hcs
    obtain ⟨_, rfl, _⟩ := hcs
    intro i hi; omega
  · simp [Value.cells] at hcs
    obtain ⟨rfl, rfl, rfl⟩ := hcs
    intro i hi
    have him : i < m := by rw [hm]; split <;> omega
    obtain ⟨h1, h2⟩ := hx i him
    obtain ⟨v, hv, _⟩ := DataW.trod_bool he h2
    obtain ⟨b, off, spot⟩ := x
    have hspot : spot = none := by
      have h0 := (hx 0 (by omega)).1
      have := World.cell?_spot h0
      simpa [Addr.add] using this
    subst hspot
    refine ⟨b, off, v, rfl, ?_⟩
    have e : (⟨b, off, none⟩ : Addr).add i = ⟨b, off + i, none⟩ := by
      unfold Addr.add
      by_cases h0 : i = 0
      · subst h0; rfl
      · simp [h0]
    rw [e] at h1
    rw [h1]
    simp at hv
    rw [hv]
theorem boos_of {w : World} {a : Option Addr} {n : Nat} (h : IsBools w a n) : ∃ U, Boos w a n U := by
  have key : ∀ i, i < n → ∃ v : Bool, ∃ b off, a = some ⟨b, off, none⟩ ∧ w.cell? ⟨b, off + i, none⟩ = some (.bool v) := fun i hi => by
    obtain ⟨b, off, v, h1, h2⟩ := h i hi
    exact ⟨v, b, off, h1, h2⟩
  obtain ⟨U, hU⟩ := Deep.choose_lt key
  exact ⟨U, fun i hi => hU i hi⟩
end Go.Proofs.YteiikipldejeeaaDoor
