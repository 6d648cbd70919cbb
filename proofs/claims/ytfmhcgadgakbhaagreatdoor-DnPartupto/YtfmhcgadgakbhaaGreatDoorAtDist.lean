import Derived.Test.YtfmhcgadgakbhaaGreatDoorFxE
import Derived.Sort.OwnSorted
namespace Go.Proofs.YtfmhcgadgakbhaaGreatDoor
open Go.RowKit Go.Shelf Go.Sort
set_option linter.unusedVariables false

/-- Texts, the small ones ahead. -/
def srt (l : List (List UInt8)) : List (List UInt8) := l.mergeSort fun x y => decide (x ≤ y)
theorem srt_len (l : List (List UInt8)) : (srt l).length = l.length := by simp [srt]
theorem sv_enc (l : List (List UInt8)) : sv l = l.map encStr := rfl
theorem ownS_base {w : World} {B C : Nat} {v : Value} {l : List (List UInt8)} (h : OwnS w B v l) (hc : C ≤ B) : OwnS w C v l := by
  rcases h with ⟨h1, ⟨rfl, h2⟩ | ⟨g, cap, cur, rfl, h3, h4⟩⟩
  · exact ⟨h1, Or.inl ⟨rfl, h2⟩⟩
  · exact ⟨h1, Or.inr ⟨g, cap, cur, rfl, Nat.le_trans hc h3, h4⟩⟩
theorem key_inv {v : Value} {kl : Lit} (h : keyOf Tryz.prog 9 v = some kl) : ∃ m : List UInt8, v = .string (S m) := by
  cases v <;> simp [keyOf, mapKey, Tryz.underlying9] at h
  rename_i s
  exact ⟨s.data.toList, rfl⟩
theorem key_lit {m : List UInt8} {kl : Lit} (h : keyOf Tryz.prog 9 (.string (S m)) = some kl) : kl = .string m := by
  simp [keyOf, mapKey, Tryz.underlying9] at h
  rw [← h.2]
  rfl

end Go.Proofs.YtfmhcgadgakbhaaGreatDoor
