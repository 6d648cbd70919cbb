import Derived.Test.YthpfnajgbocpnaaPtMath
import Derived.Test.YthpfnajgbocpnaaSgM
import Derived.Test.YthpfnajgbocpnaaBytes
namespace Go.Proofs.Ythpfnajgbocpnaa
namespace PtT
open Go.Lib
set_option linter.unusedVariables false

/-- Texts by their ranks. -/
abbrev Rk := { t : Nat → List UInt8 // ∀ x y, x < y → t x < t y }
def TB (T : Rk) (z : Nat) : ByteArray := S (T.1 z)
abbrev en (T : Rk) (z : Nat) : Value := .string (TB T z)
theorem lt_iff (T : Rk) (x y : Nat) : T.1 x < T.1 y ↔ x < y := by
  constructor
  · intro h
    rcases Nat.lt_trichotomy x y with q | q | q
    · exact q
    · subst q; exact absurd h (SgMath.ltI _)
    · exact absurd (SgMath.ltT h (T.2 y x q)) (SgMath.ltI _)
  · exact T.2 x y
theorem inj (T : Rk) {x y : Nat} (h : T.1 x = T.1 y) : x = y := by
  rcases Nat.lt_trichotomy x y with q | q | q
  · have := T.2 x y q; rw [h] at this; exact absurd this (SgMath.ltI _)
  · exact q
  · have := T.2 y x q; rw [h] at this; exact absurd this (SgMath.ltI _)
theorem less (T : Rk) (x y : Nat) : Op.bytesLess (TB T x).toList (TB T y).toList = decide (x < y) := by
  unfold TB
  rw [Lib.toList_data, Lib.toList_data, S_l, S_l]
  by_cases h : x < y
  · rw [decide_eq_true h]; exact (SgMath.less_iff _ _).2 (T.2 x y h)
  · rw [decide_eq_false h, Bool.eq_false_iff]; exact fun q => h ((lt_iff T x y).1 ((SgMath.less_iff _ _).1 q))
theorem beq_ne (T : Rk) {x y : Nat} (h : x ≠ y) : ((TB T x).toList == (TB T y).toList) = false := by
  unfold TB
  rw [Lib.toList_data, Lib.toList_data, S_l, S_l, beq_eq_false_iff_ne]
  exact fun e => h (inj T e)
theorem snoc0 (s : List UInt8) : s < s ++ [0] := by
  induction s with
  | nil => exact List.nil_lt_cons _ _
  | cons a s ih => rw [List.cons_append, List.cons_lt_cons_iff]; exact Or.inr ⟨rfl, ih⟩
/-- Behind a rising list, longer and longer texts. -/
def ext (G : List (List UInt8)) (z : Nat) : List UInt8 := if h : z < G.length then G[z] else (G.getLast?.getD []) ++ List.replicate (z - G.length + 1) 0
theorem ext_step (G : List (List UInt8)) (hG : SgMath.Inc G) (z : Nat) : ext G z < ext G (z + 1) := by
  unfold ext
  by_cases h1 : z + 1 < G.length
  · rw [dif_pos h1, dif_pos (by omega)]
    exact List.pairwise_iff_getElem.1 hG z (z + 1) (by omega) h1 (by omega)
  · rw [dif_neg h1]
    by_cases h2 : z < G.length
    · rw [dif_pos h2]
      have e : z + 1 - G.length + 1 = 1 := by omega
      have e2 : G.getLast?.getD [] = G[z] := by
        rw [List.getLast?_eq_getElem?]
        have : G.length - 1 = z := by omega
        rw [this, List.getElem?_eq_getElem h2]
        rfl
      rw [e, e2]
      exact snoc0 _
    · rw [dif_neg h2]
      have e : z + 1 - G.length + 1 = (z - G.length + 1) + 1 := by omega
      have e3 : List.replicate ((z - G.length + 1) + 1) (0 : UInt8) = List.replicate (z - G.length + 1) 0 ++ [0] := List.replicate_succ'
      rw [e, e3, ← List.append_assoc]
      exact snoc0 _
theorem ext_mono (G : List (List UInt8)) (hG : SgMath.Inc G) : ∀ x y, x < y → ext G x < ext G y := by
  intro x y h
  induction y with
  | zero => omega
  | succ y ih =>
    by_cases e : x = y
    · subst e; exact ext_step G hG x
    · exact SgMath.ltT (ih (by omega)) (ext_step G hG y)
/-- Every list of texts has its ranks. -/
theorem rank (F : List (List UInt8)) : ∃ T : Rk, ∀ s ∈ F, ∃ z, T.1 z = s := by
  refine ⟨⟨ext (SgMath.setOf F), ext_mono _ (SgMath.setOf_inc F)⟩, fun s hs => ?_⟩
  have hs' := (SgMath.setOf_mem F s).2 hs
  obtain ⟨z, hz, e⟩ := List.getElem_of_mem hs'
  exact ⟨z, by show ext _ z = s; unfold ext; rw [dif_pos hz]; exact e⟩
theorem lift (T : Rk) : ∀ l : List (List UInt8), (∀ s ∈ l, ∃ z, T.1 z = s) → ∃ k : List Nat, k.map T.1 = l
  | [], _ => ⟨[], rfl⟩
  | s :: l, h => by
    obtain ⟨z, rfl⟩ := h s (List.mem_cons_self ..)
    obtain ⟨k, rfl⟩ := lift T l (fun s hs => h s (List.mem_cons_of_mem _ hs))
    exact ⟨z :: k, rfl⟩
theorem inc_map (T : Rk) (l : List Nat) : SgMath.Inc (l.map T.1) ↔ PtMath.Inc l := by
  unfold SgMath.Inc PtMath.Inc
  rw [List.pairwise_map]
  exact ⟨fun h => h.imp (fun q => (lt_iff T _ _).1 q), fun h => h.imp (fun q => (lt_iff T _ _).2 q)⟩
theorem setOf_map (T : Rk) (l : List Nat) : SgMath.setOf (l.map T.1) = (PtMath.setOf l).map T.1 := by
  refine SgMath.inc_eq _ _ (SgMath.setOf_inc _) ((inc_map T _).2 (PtMath.setOf_inc l)) (fun x => ?_)
  rw [SgMath.setOf_mem, List.mem_map, List.mem_map]
  constructor
  · rintro ⟨z, hz, rfl⟩; exact ⟨z, (PtMath.setOf_mem l z).2 hz, rfl⟩
  · rintro ⟨z, hz, rfl⟩; exact ⟨z, (PtMath.setOf_mem l z).1 hz, rfl⟩
end PtT
end Go.Proofs.Ythpfnajgbocpnaa
