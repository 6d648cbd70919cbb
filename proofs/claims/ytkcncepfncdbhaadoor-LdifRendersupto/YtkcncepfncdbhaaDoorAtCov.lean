import Derived.Test.YtkcncepfncdbhaaDoorAtSup
namespace Go.Proofs.YtkcncepfncdbhaaDoor
open Go.RowKit
open TextMath (fold lo)
set_option linter.unusedVariables false

theorem map_below {w w' : World} {R : Value → Option (DataW Nat × List MemPlace)} {b n : Nat} {D : DataW Nat} (h : w.ownsMap Tryd.prog 9 R b n D) (hb : Below w.heap.size w w') : w'.ownsMap Tryd.prog 9 R b n D := by
  have hlt := h.lt
  obtain ⟨es, clock, h0, h1⟩ := h
  exact ⟨es, clock, by rw [hb.block b hlt]; exact h0, h1⟩
theorem con_two (e f : ByteArray) (g : Nat) (w : World) (hg : w.cell? ⟨g, 0, none⟩ = some (.string e)) (hg1 : w.cell? ⟨g, 1, none⟩ = some (.string f)) : ∀ W x, Below w.heap.size w W → Hid (Calls Tryd.prog 50 #[.slice (some ⟨g, 0, none⟩) 2 2, .string x] W fun r w' => r = .returned (.bool (Lib.containsS [e, f] x)) ∧ w' = W) := fun W x hb => by
  have h := Tryd.slices_Contains_string g 0 2 2 [e, f] x W (by simp) (by decide) (fun j hj => by
    have : j = 0 ∨ j = 1 := by simp at hj; omega
    rcases this with rfl | rfl
    · rw [hb.cell (World.block_lt_of_cell? w _ hg)]; exact hg
    · rw [hb.cell (World.block_lt_of_cell? w _ hg1)]; exact hg1)
  exact h
theorem openBook_two (e f : ByteArray) (g : Nat) (w : World) (hg : w.cell? ⟨g, 0, none⟩ = some (.string e)) (hg1 : w.cell? ⟨g, 1, none⟩ = some (.string f)) :
    Calls Tryd.prog 40 #[.slice (some ⟨g, 0, none⟩) 2 2] w fun r w' => ∃ B cs, w.heap.size ≤ B ∧ r = .returned (.agg cs) ∧ Hid (bkC B (upF 62) = cs) ∧ cs.size = 187 ∧ (∀ v ∈ cs.toList, v.oneCell' = true) ∧ cs[186]? = some (.map (some B)) ∧ Hid (w'.ownsMap Tryd.prog 9 (plainElem (H := Nat) Tryd.prog 3) B 186 (mapD [e, f] (upF 62))) ∧ Below w.heap.size w w' := by
  refine (openBook_any _ 2 2 [e, f] w (con_two e f g w hg hg1)).mono ?_
  intro r w' h
  obtain ⟨B, h1, h2, h3, h4⟩ := h
  exact ⟨B, bkC B (upF 62), h1, h2, rfl, bkC_size _ _, bkC_one _ _, bkC_last _ _, h3, h4⟩
theorem contains_row (l : List (List UInt8)) (x : List UInt8) (a : Option Addr) (c : Nat) (w : World) (h : TRow w a l) (hl : l.length ≤ 4194304) :
    Calls Tryd.prog 50 #[.slice a l.length c, .string (S x)] w fun r w' => r = .returned (.bool (decide (x ∈ l))) ∧ w' = w := by
  by_cases h0 : l.length = 0
  · have := List.eq_nil_of_length_eq_zero h0
    subst this
    have h := Tryd.slices_Contains_string_empty a c (S x) w
    simpa using h
  · obtain ⟨g, rfl, _⟩ := h 0 (by omega)
    have hk := Tryd.slices_Contains_string g 0 l.length c (l.map S) (S x) w (by simp) (by omega) (fun j hj => by
      have hj' : j < l.length := by simpa using hj
      obtain ⟨g', e, hc⟩ := h j hj'
      injection e with e
      injection e with e1
      subst e1
      rw [Nat.zero_add, hc]
      simp [List.getD, hj'])
    have e : Lib.containsS ((l.map S).take l.length) (S x) = decide (x ∈ l) := by
      rw [List.take_of_length_le (by simp), Bool.eq_iff_iff, Lib.containsS_iff]
      simp
      constructor
      · rintro ⟨y, hy, e⟩
        have := S_inj _ _ e
        subst this
        exact hy
      · intro hx
        exact ⟨x, hx, rfl⟩
    rw [e] at hk
    exact hk

end Go.Proofs.YtkcncepfncdbhaaDoor
