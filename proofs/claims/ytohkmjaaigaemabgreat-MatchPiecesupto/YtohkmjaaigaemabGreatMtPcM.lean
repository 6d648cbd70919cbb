import Derived.Test.YtohkmjaaigaemabGreatMtFitM
namespace FitM
open Go.Lib
set_option linter.unusedVariables false

theorem idx_st (v p : List UInt8) : 0 ≤ index v p ↔ ∃ k, St v k p := by
  have oc : ∀ j, j + p.length ≤ v.length → (occAt v p j = true ↔ St v j p) := fun j hj => by
    have := occ_st v v.length 0 j p (Nat.le_refl _) (by omega)
    rw [List.take_length, List.drop_zero, Nat.zero_add] at this
    exact this
  rcases index_spec v p with ⟨h1, h2⟩ | ⟨i, h1, h2, h3, h4⟩
  · rw [h1]
    refine ⟨fun h => absurd h (by decide), ?_⟩
    rintro ⟨k, hk⟩
    have := h2 k (by have := hk.1; omega)
    rw [(oc k hk.1).2 hk] at this
    cases this
  · have hroom := index_room v p (by rw [h1]; omega)
    rw [h1] at hroom
    exact ⟨fun _ => ⟨i, (oc i (by omega)).1 h3⟩, fun _ => by rw [h1]; omega⟩
theorem prog_in (v x : List UInt8) : progF v [] [x] [] = decide (0 ≤ index v x) := by
  have e1 : hasPrefix v [] = true := by simp [hasPrefix]
  have e2 : hasSuffix v [] = true := by simp [hasSuffix]
  have e3 : trimSuffix v [] = v := by unfold trimSuffix; rw [e2]; simp
  unfold progF
  rw [e1, List.length_nil, List.drop_zero, e2, e3]
  unfold gre
  by_cases h : 0 ≤ index v x
  · rw [if_pos h]; simp [h, gre]
  · rw [if_neg h]; simp [h]
theorem prog_front (v x : List UInt8) : progF v x [] [] = hasPrefix v x := by
  unfold progF
  simp [hasSuffix, gre]
theorem prog_back (v x : List UInt8) : progF v [] [] x = hasSuffix v x := by
  unfold progF
  simp [hasPrefix, gre]
theorem prog_both (v : List UInt8) : progF v v [] v = v.isEmpty := by
  have e1 : hasPrefix v v = true := by unfold hasPrefix; rw [List.isPrefixOf_iff_prefix]; exact List.prefix_refl v
  unfold progF
  rw [e1, List.drop_length]
  cases v with
  | nil => rfl
  | cons a t => simp [hasSuffix, gre]
theorem prog_laid (i g m n f : List UInt8) : progF (i ++ g ++ m ++ g ++ n ++ f) i [m, n] f = true := by
  rw [prog_ref]
  have hl : (i ++ g ++ m ++ g ++ n ++ f).length = i.length + g.length + m.length + g.length + n.length + f.length := by simp only [List.length_append]
  have st : ∀ a b c : List UInt8, a ++ b ++ c = i ++ g ++ m ++ g ++ n ++ f → St (i ++ g ++ m ++ g ++ n ++ f) a.length b := by
    intro a b c h
    rw [← h]
    refine ⟨by simp only [List.length_append]; omega, ?_⟩
    rw [List.append_assoc, List.drop_left, List.take_left]
  have s0 := st [] i (g ++ m ++ g ++ n ++ f) (by simp)
  have s1 := st (i ++ g) m (g ++ n ++ f) (by simp)
  have s2 := st (i ++ g ++ m ++ g) n f rfl
  have s3 := st (i ++ g ++ m ++ g ++ n) f [] (by simp)
  simp only [List.length_append, List.length_nil] at s0 s1 s2 s3
  refine ⟨s0, by omega, ?_, ?_⟩
  · rw [show (i ++ g ++ m ++ g ++ n ++ f).length - f.length = i.length + g.length + m.length + g.length + n.length by omega]; exact s3
  · rw [fold_lay]
    refine ⟨i.length, rfl, i.length + g.length, by omega, s1, i.length + g.length + m.length + g.length, by omega, s2, ?_⟩
    show _ ≤ _
    omega
end FitM
