import Derived.Test.YtkecaeceeldcaaaGreatDoorMtTxt4
namespace Go.Proofs.YtkecaeceeldcaaaGreatDoor
namespace MtFldM
open TextMath (fold squeeze check lo col trimP trimS)
set_option linter.unusedVariables false

theorem repK_filter (c : UInt8) : ∀ s : List UInt8, Lib.replaceK [c] [] (Lib.count s [c]) s = s.filter (fun b => b != c)
  | [] => by rw [Lib.count_one]; rfl
  | b :: l => by
    have ih := repK_filter c l
    by_cases h : b = c
    · subst h
      have hi : Lib.index (b :: l) [b] = (0 : Nat) := by simp [Lib.index, List.isPrefixOf]
      rw [Lib.count_cons_eq, Nat.add_comm, Lib.replaceK_hit [b] [] _ _ 0 hi]
      have e : (b :: l).filter (fun x => x != b) = l.filter (fun x => x != b) := by simp
      rw [e, ← ih]
      rfl
    · rw [Lib.count_cons_ne b c l h]
      have e : (b :: l).filter (fun x => x != c) = b :: l.filter (fun x => x != c) := by simp [h]
      rw [e]
      cases hk : Lib.count l [c] with
      | zero =>
        rw [hk] at ih
        rw [← ih]
        rfl
      | succ k =>
        rw [hk] at ih
        obtain ⟨i, hi⟩ := Lib.index_of_count (s := l) (old := [c]) (by omega)
        have hi2 : Lib.index (b :: l) [c] = ((i + 1 : Nat) : Int) := by
          have hp : [c].isPrefixOf (b :: l) = false := by simp [List.isPrefixOf]; exact fun e => h e.symm
          have hm : ¬ (Lib.index l [c] == -1) = true := fun e => by have := beq_iff_eq.1 e; omega
          rw [Lib.index, hp, if_neg (by simp), if_neg hm, hi]
          rfl
        rw [Lib.replaceK_hit [c] [] k l i hi] at ih
        rw [Lib.replaceK_hit [c] [] k (b :: l) (i + 1) hi2, ← ih]
        rfl
theorem rep_filter (c : UInt8) (s : List UInt8) : Lib.replaceAll s [c] [] = s.filter (fun b => b != c) := by
  unfold Lib.replaceAll Lib.replace Lib.replaceNum
  rw [if_neg (by simp), if_pos (by left; decide)]
  exact repK_filter c s
/-- Small letters for capitals, and capitals for small ones. -/
def swp (c : UInt8) : UInt8 := if 97 ≤ c.toNat ∧ c.toNat ≤ 122 then c - 32 else if 65 ≤ c.toNat ∧ c.toNat ≤ 90 then c + 32 else c
theorem swp_lo (c : UInt8) : lo (swp c) = lo c := by
  have : ∀ n : Fin 256, lo (swp (UInt8.ofNat n.val)) = lo (UInt8.ofNat n.val) := by decide +kernel
  have := this ⟨c.toNat, c.toNat_lt⟩
  simpa using this
theorem swp_swp (c : UInt8) : swp (swp c) = c := by
  have : ∀ n : Fin 256, swp (swp (UInt8.ofNat n.val)) = UInt8.ofNat n.val := by decide +kernel
  have := this ⟨c.toNat, c.toNat_lt⟩
  simpa using this
theorem fold_swp (l : List UInt8) : fold (l.map swp) = fold l := by
  unfold fold
  rw [List.map_map]
  exact List.map_congr_left fun c _ => swp_lo c
end MtFldM
end Go.Proofs.YtkecaeceeldcaaaGreatDoor
