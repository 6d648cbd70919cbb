import Derived.Lib.SlicesCompact
namespace Go.Proofs.Ythpfnajgbocpnaa
namespace PtMath
open Go.Lib

/-- Rising. -/
abbrev Inc (l : List Nat) : Prop := l.Pairwise (· < ·)
def le2 (x y : Nat) : Bool := decide (x ≤ y)
/-- The list of the set of a list, as the program makes it. -/
def setOf (l : List Nat) : List Nat := if Inc l then l else Lib.compact (l.mergeSort fun x y => decide (x ≤ y))
theorem srt_pair (l : List Nat) : (l.mergeSort fun x y => decide (x ≤ y)).Pairwise (· ≤ ·) := by
  have h := List.pairwise_mergeSort (le := fun x y : Nat => decide (x ≤ y)) (by intro a b c; simp; omega) (by intro a b; simp; omega) l
  exact h.imp (fun h => by simpa using h)
theorem get_bang (zs : List Nat) (j : Nat) (hj : j < zs.length) : zs.toArray[j]! = zs[j] := by
  rw [getElem!_pos _ _ (by simpa using hj)]
  simp
theorem compact_inc (zs : List Nat) (h : zs.Pairwise (· ≤ ·)) : Inc (Lib.compact zs) := by
  unfold Lib.compact compactUpTo Inc
  rw [List.pairwise_map]
  have h0 : ((List.range zs.length).filter (keeps zs.toArray)).Pairwise (· < ·) := List.Pairwise.filter _ List.pairwise_lt_range
  refine List.Pairwise.imp_of_mem ?_ h0
  intro a b ha hb hab
  rw [List.mem_filter, List.mem_range] at ha hb
  have hk := hb.2
  unfold keeps at hk
  simp only [decide_eq_true_eq] at hk
  have hne : zs.toArray[b]! ≠ zs.toArray[b - 1]! := by
    rcases hk with hk | hk
    · omega
    · exact hk
  have hp := List.pairwise_iff_getElem.1 h
  rw [get_bang zs a ha.1, get_bang zs b hb.1]
  rw [get_bang zs b hb.1, get_bang zs (b - 1) (by omega)] at hne
  have h1 := hp (b - 1) b (by omega) hb.1 (by omega)
  have h2 : zs[a]'ha.1 ≤ zs[b - 1]'(by omega) := by
    by_cases e : a = b - 1
    · subst e; exact Nat.le_refl _
    · exact hp a (b - 1) ha.1 (by omega) (by omega)
  omega
theorem compact_mem (zs : List Nat) (x : Nat) : x ∈ Lib.compact zs ↔ x ∈ zs := by
  unfold Lib.compact compactUpTo
  simp only [List.mem_map, List.mem_filter, List.mem_range]
  constructor
  · rintro ⟨j, ⟨hj, _⟩, rfl⟩
    rw [get_bang zs j hj]
    exact List.getElem_mem hj
  · intro hx
    obtain ⟨j, hj, rfl⟩ := List.getElem_of_mem hx
    have key : ∀ n j, j ≤ n → (hj : j < zs.length) → ∃ a, (a < zs.length ∧ keeps zs.toArray a = true) ∧ zs.toArray[a]! = zs[j] := by
      intro n
      induction n with
      | zero =>
        intro j hjn hj
        have : j = 0 := by omega
        subst this
        exact ⟨0, ⟨hj, keeps_lt_one _ 0 (by omega)⟩, get_bang zs 0 hj⟩
      | succ n ih =>
        intro j hjn hj
        by_cases h0 : j = 0
        · subst h0
          exact ⟨0, ⟨hj, keeps_lt_one _ 0 (by omega)⟩, get_bang zs 0 hj⟩
        · by_cases he : zs[j] = zs[j - 1]'(by omega)
          · obtain ⟨a, h1, h2⟩ := ih (j - 1) (by omega) (by omega)
            exact ⟨a, h1, by rw [h2, he]⟩
          · refine ⟨j, ⟨hj, keeps_pos ?_⟩, get_bang zs j hj⟩
            rw [get_bang zs j hj, get_bang zs (j - 1) (by omega)]
            exact he
    exact key j j (Nat.le_refl _) hj
theorem compact_len (zs : List Nat) : (Lib.compact zs).length ≤ zs.length := by
  unfold Lib.compact compactUpTo
  rw [List.length_map]
  exact Nat.le_trans (List.length_filter_le _ _) (by simp)
theorem setOf_inc (l : List Nat) : Inc (setOf l) := by
  unfold setOf
  by_cases h : Inc l
  · rw [if_pos h]; exact h
  · rw [if_neg h]; exact compact_inc _ (srt_pair l)
theorem setOf_mem (l : List Nat) (x : Nat) : x ∈ setOf l ↔ x ∈ l := by
  unfold setOf
  by_cases h : Inc l
  · rw [if_pos h]
  · rw [if_neg h, compact_mem, List.mem_mergeSort]
theorem setOf_len (l : List Nat) : (setOf l).length ≤ l.length := by
  unfold setOf
  by_cases h : Inc l
  · rw [if_pos h]; exact Nat.le_refl _
  · rw [if_neg h]
    have := compact_len (l.mergeSort fun x y => decide (x ≤ y))
    simpa using this
theorem setOf_self {l : List Nat} (h : Inc l) : setOf l = l := by unfold setOf; rw [if_pos h]
/-- Two rising lists of the same elements are one. -/
theorem inc_eq : ∀ (a b : List Nat), Inc a → Inc b → (∀ x, x ∈ a ↔ x ∈ b) → a = b
  | [], [], _, _, _ => rfl
  | [], y :: b, _, _, h => by have := (h y).2 (by simp); simp at this
  | x :: a, [], _, _, h => by have := (h x).1 (by simp); simp at this
  | x :: a, y :: b, ha, hb, h => by
    have ha' := List.pairwise_cons.1 ha
    have hb' := List.pairwise_cons.1 hb
    have hxy : x = y := by
      have h1 := (h x).1 (by simp)
      have h2 := (h y).2 (by simp)
      rcases List.mem_cons.1 h1 with h1 | h1
      · exact h1
      · rcases List.mem_cons.1 h2 with h2 | h2
        · exact h2.symm
        · have := ha'.1 y h2
          have := hb'.1 x h1
          omega
    subst hxy
    congr 1
    refine inc_eq a b ha'.2 hb'.2 fun z => ?_
    constructor
    · intro hz
      have hlt := ha'.1 z hz
      rcases List.mem_cons.1 ((h z).1 (List.mem_cons_of_mem _ hz)) with e | e
      · omega
      · exact e
    · intro hz
      have hlt := hb'.1 z hz
      rcases List.mem_cons.1 ((h z).2 (List.mem_cons_of_mem _ hz)) with e | e
      · omega
      · exact e
theorem inc_step {l : List Nat} : Inc l ↔ ∀ i (h : i < l.length), 1 ≤ i → l[i - 1]'(by omega) < l[i] := by
  constructor
  · intro h i hi h1
    exact List.pairwise_iff_getElem.1 h (i - 1) i (by omega) hi (by omega)
  · intro h
    refine List.pairwise_iff_getElem.2 ?_
    have key : ∀ d i (hj : i + (d + 1) < l.length), l[i]'(by omega) < l[i + (d + 1)] := by
      intro d
      induction d with
      | zero => intro i hj; exact h (i + 1) hj (by omega)
      | succ d ih =>
        intro i hj
        have a := ih i (by omega)
        have b := h (i + (d + 1 + 1)) hj (by omega)
        have e : (i + (d + 1 + 1) - 1) = i + (d + 1) := by omega
        simp only [e] at b
        exact Nat.lt_trans a b
    intro i j hi hj hij
    have := key (j - i - 1) i (by omega)
    have e : i + (j - i - 1 + 1) = j := by omega
    simp only [e] at this
    exact this
/-- How many of a list are below x. -/
def cnt (l : List Nat) (x : Nat) : Nat := l.countP (· < x)
theorem cnt_mid (l : List Nat) (x : Nat) (s m : Nat) (hs : s ≤ m) (hm : m ≤ l.length) (h1 : ∀ i (h : i < l.length), i < s → l[i] < x) (h2 : ∀ i (h : i < l.length), m ≤ i → x ≤ l[i]) :
    cnt l x = s + cnt ((l.drop s).take (m - s)) x := by
  have e : l = l.take s ++ ((l.drop s).take (m - s) ++ l.drop m) := by
    have e1 := (List.take_append_drop s l).symm
    have e2 := (List.take_append_drop (m - s) (l.drop s)).symm
    rw [List.drop_drop] at e2
    have : s + (m - s) = m := by omega
    rw [this] at e2
    rw [← e2]
    exact e1
  have c1 : (l.take s).countP (· < x) = s := by
    rw [List.countP_eq_length.2 ?_]
    · simp; omega
    · intro a ha
      obtain ⟨i, hi, rfl⟩ := List.getElem_of_mem ha
      rw [List.length_take] at hi
      rw [List.getElem_take]
      simpa using h1 i (by omega) (by omega)
  have c3 : (l.drop m).countP (· < x) = 0 := by
    rw [List.countP_eq_zero]
    intro a ha
    obtain ⟨i, hi, rfl⟩ := List.getElem_of_mem ha
    simp at hi
    simp
    exact h2 (m + i) (by omega) (by omega)
  unfold cnt
  conv => lhs; rw [e]
  rw [List.countP_append, List.countP_append, c1, c3]
  omega
theorem cnt_len (l : List Nat) (x : Nat) : cnt l x ≤ l.length := List.countP_le_length
/-- Where one stands behind all that are below x. -/
theorem cnt_at (l : List Nat) (x : Nat) (i : Nat) (hi : i ≤ l.length) (h1 : ∀ j (h : j < l.length), j < i → l[j] < x) (h2 : Inc l) (h3 : ∀ h : i < l.length, x ≤ l[i]) : cnt l x = i := by
  have h := cnt_mid l x i i (Nat.le_refl _) hi h1 (fun j hj hij => by
    by_cases e : i = j
    · subst e; exact h3 hj
    · have := List.pairwise_iff_getElem.1 h2 i j (by omega) hj (by omega)
      have := h3 (by omega)
      omega)
  simpa [cnt] using h
theorem cnt_split : ∀ (l : List Nat) (x : Nat), Inc l → (∀ j (h : j < l.length), j < cnt l x → l[j] < x) ∧ (∀ j (h : j < l.length), cnt l x ≤ j → x ≤ l[j])
  | [], x, _ => ⟨fun j h => by simp at h, fun j h => by simp at h⟩
  | y :: l, x, hl => by
    have hl' := List.pairwise_cons.1 hl
    obtain ⟨i1, i2⟩ := cnt_split l x hl'.2
    by_cases hy : y < x
    · have e : cnt (y :: l) x = cnt l x + 1 := by simp [cnt, hy]
      rw [e]
      refine ⟨fun j h hj => ?_, fun j h hj => ?_⟩
      · cases j with
        | zero => exact hy
        | succ j => exact i1 j (by simpa using h) (by omega)
      · cases j with
        | zero => omega
        | succ j => exact i2 j (by simpa using h) (by omega)
    · have e : cnt (y :: l) x = 0 := by
        unfold cnt
        rw [List.countP_eq_zero]
        intro a ha
        rcases List.mem_cons.1 ha with rfl | ha
        · simp; omega
        · have := hl'.1 a ha
          simp; omega
      rw [e]
      refine ⟨fun j h hj => by omega, fun j h hj => ?_⟩
      cases j with
      | zero => simp; omega
      | succ j =>
        have := hl'.1 _ (List.getElem_mem (by simpa using h : j < l.length))
        simp
        omega
theorem inc_drop {l : List Nat} (h : Inc l) (n : Nat) : Inc (l.drop n) := h.sublist (List.drop_sublist n l)
theorem two_two : setOf [2, 2] = [2] := inc_eq _ _ (setOf_inc _) (List.pairwise_singleton _ _) (fun x => by rw [setOf_mem]; simp)
end PtMath
end Go.Proofs.Ythpfnajgbocpnaa
