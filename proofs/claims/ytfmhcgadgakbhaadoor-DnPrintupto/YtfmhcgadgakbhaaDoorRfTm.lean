import Derived.Test.YtfmhcgadgakbhaaDoorRfB
import Derived.Test.YtfmhcgadgakbhaaDoorFxB
namespace Go.Proofs.YtfmhcgadgakbhaaDoor
open TextMath (fold lo)
set_option linter.unusedVariables false

theorem sp_has (c b : UInt8) (hbc : b ≠ c) : ∀ l : List UInt8, b ∈ l → ∃ z ∈ sp c l, b ∈ z
  | [], h => by simp at h
  | x :: l, h => by
    by_cases hx : x = c
    · subst hx
      rcases List.mem_cons.1 h with h | h
      · exact absurd h hbc
      · obtain ⟨z, h1, h2⟩ := sp_has x b hbc l h
        exact ⟨z, by rw [sp_at]; exact List.mem_cons_of_mem _ h1, h2⟩
    · rw [sp_on c x l hx]
      rcases List.mem_cons.1 h with h | h
      · exact ⟨_, List.mem_cons_self, by rw [h]; exact List.mem_cons_self⟩
      · obtain ⟨z, h1, h2⟩ := sp_has c b hbc l h
        rw [sp_cons] at h1
        rcases List.mem_cons.1 h1 with h1 | h1
        · exact ⟨_, List.mem_cons_self, by rw [h1] at h2; exact List.mem_cons_of_mem _ h2⟩
        · exact ⟨z, List.mem_cons_of_mem _ h1, h2⟩
theorem typ_all (m : List UInt8) : typB m = (decide (59 ∉ m) && dacc (drun 0 m)) := by
  by_cases h : 59 ∈ m
  · rw [decide_eq_false (fun q => q h), Bool.false_and]
    unfold typB
    split
    · rfl
    · split
      · unfold keysB
        rw [Bool.and_eq_false_iff]
        left
        rw [Bool.eq_false_iff]
        intro q
        have := List.all_eq_true.1 q 59 h
        revert this
        decide
      · rw [Bool.and_eq_false_iff]
        left
        rw [Bool.eq_false_iff]
        intro q
        obtain ⟨z, h1, h2⟩ := sp_has 46 59 (by decide) m h
        have := List.all_eq_true.1 q z h1
        unfold numB at this
        rw [Bool.and_eq_true] at this
        have := List.all_eq_true.1 this.1 59 h2
        revert this
        decide
  · rw [decide_eq_true h, Bool.true_and, typ_dfa m h]
/-- What stands ahead of the first ';'. -/
def cutS (m : List UInt8) : List UInt8 := m.takeWhile (fun b => b != 59)
theorem cutS_no (m : List UInt8) : 59 ∉ cutS m := fun h => by
  have := List.all_takeWhile (p := fun b : UInt8 => b != 59) (l := m)
  have h2 := List.all_eq_true.1 this 59 h
  simp at h2
theorem cutS_or (m : List UInt8) : m = cutS m ∨ ∃ r, m = cutS m ++ 59 :: r := by
  have h := List.takeWhile_append_dropWhile (p := fun b : UInt8 => b != 59) (l := m)
  cases hd : m.dropWhile (fun b : UInt8 => b != 59) with
  | nil => left; rw [hd, List.append_nil] at h; exact h.symm
  | cons b r =>
    right
    refine ⟨r, ?_⟩
    have hb : (b != 59) = false := by
      have := List.head_dropWhile_not (fun b : UInt8 => b != 59) (l := m) (by rw [hd]; simp)
      simp only [hd, List.head_cons] at this
      exact this
    have : b = 59 := by simpa using hb
    subst this
    rw [hd] at h
    exact h.symm
theorem typ_plc (z : List UInt8) (h : 59 ∉ z) : (typE z).1 = plc 0 z := by
  have hd := (desc_dfa (S z)).1
  rw [S_l] at hd
  rw [← hd]
  unfold desc
  rw [S_l]
  split
  · rename_i hk
    have hz : (S z).size = z.length := by rw [← size_l, S_l]
    unfold dscE
    split
    · rename_i hlt
      rw [S_l]
      have hlt' : (typE z).1 < z.length := by omega
      have hne : ¬ (z.getD (typE z).1 0).toNat = 59 := by
        rw [List.getD, List.getElem?_eq_getElem hlt', Option.getD_some]
        intro q
        exact h (by rw [show (59 : UInt8) = z[(typE z).1] from UInt8.toNat_inj.1 (by rw [q]; rfl)]; exact List.getElem_mem hlt')
      rw [if_neg hne]
    · rfl
  · rfl
theorem typ_place (m : List UInt8) : (typE m).1 = plc 0 (cutS m) := by
  rw [← typ_plc _ (cutS_no m)]
  rcases cutS_or m with h | ⟨r, h⟩
  · rw [← h]
  · conv => lhs; rw [h]
    rw [typE_semi]
theorem typ_ok (m : List UInt8) : ((typE m).2 = true ∧ ¬ (typE m).1 < m.length) ↔ typB m = true := by
  have hle := typE_le m
  rw [typ_all, Bool.and_eq_true, decide_eq_true_iff]
  have hd := (desc_dfa (S m)).2
  rw [S_l] at hd
  rw [← hd]
  constructor
  · rintro ⟨h1, h2⟩
    have hT : typE m = (m.length, true) := Prod.ext (by show (typE m).1 = m.length; omega) h1
    have h := desc_semis m [] hT (by simp)
    rw [show semis [] = [] from rfl, List.append_nil] at h
    exact ⟨typ_dfa' m hT, by rw [h.1]⟩
  · rintro ⟨h1, h2⟩
    obtain ⟨i1, i2, i3, i4⟩ := desc_inv (S m) h2
    rw [S_l] at i1
    have hnil : (desc (S m)).1 = [] := by
      cases hc : (desc (S m)).1 with
      | nil => rfl
      | cons z t =>
        rw [hc, semis_cons] at i1
        exact absurd (by rw [i1]; exact List.mem_append_right _ List.mem_cons_self) h1
    rw [hnil, show semis [] = [] from rfl, List.append_nil] at i1
    rw [← i1] at i2
    rw [i2]
    exact ⟨rfl, by simp⟩
/-- One of four ends makes a type of it. -/
def goesT (t : List UInt8) : Bool := typB t || typB (t ++ [97]) || typB (t ++ [49]) || typB (t ++ [46, 49])
theorem goesT_iff (t : List UInt8) : goesT t = (decide (59 ∉ t) && decide (drun 0 t ≠ 9)) := by
  unfold goesT
  rw [typ_all, typ_all, typ_all, typ_all]
  have e1 : (59 ∉ t ++ [97]) ↔ 59 ∉ t := by simp
  have e2 : (59 ∉ t ++ [49]) ↔ 59 ∉ t := by simp
  have e3 : (59 ∉ t ++ [46, 49]) ↔ 59 ∉ t := by simp
  rw [decide_eq_decide.2 e1, decide_eq_decide.2 e2, decide_eq_decide.2 e3, ← goes_iff]
  unfold goesL
  cases decide (59 ∉ t) <;> simp
theorem take_cut (m : List UInt8) (n : Nat) (hn : n ≤ m.length) : (59 ∉ m.take n ∧ drun 0 (m.take n) ≠ 9) ↔ n ≤ plc 0 (cutS m) := by
  have hp := plc_le (cutS m) 0
  have hfr : ∀ k, k ≤ (cutS m).length → m.take k = (cutS m).take k := fun k hk => by
    rcases cutS_or m with h | ⟨r, h⟩
    · rw [← h]
    · conv => lhs; rw [h]
      rw [List.take_append_of_le_length hk]
  constructor
  · rintro ⟨h1, h2⟩
    rcases Nat.lt_or_ge (cutS m).length n with q | q
    · exfalso
      rcases cutS_or m with h | ⟨r, h⟩
      · have := congrArg List.length h; omega
      · apply h1
        rw [h, List.take_append]
        refine List.mem_append_right _ ?_
        rw [show n - (cutS m).length = (n - (cutS m).length - 1) + 1 by omega, List.take_succ_cons]
        exact List.mem_cons_self
    · rw [hfr n q] at h2
      rcases Nat.lt_or_ge (plc 0 (cutS m)) n with q2 | q2
      · exfalso
        exact drun_front _ _ n (by omega) h2 (plc_with _ 0 (by omega))
      · exact q2
  · intro h
    have hl : n ≤ (cutS m).length := by omega
    rw [hfr n hl]
    exact ⟨fun q => cutS_no m (List.mem_of_mem_take q), drun_front _ n _ h (plc_ahead _ 0 (by decide))⟩
end Go.Proofs.YtfmhcgadgakbhaaDoor
