import Derived.WalkKit
namespace Go.Proofs.Ytcngdlaaadijpaa.LdMath

theorem snocInd {α : Type} {motive : List α → Prop} (nil : motive []) (append_singleton : ∀ (pre : List α) (x : α), motive pre → motive (pre ++ [x])) (l : List α) : motive l := by
  have key : ∀ r : List α, motive r.reverse := by
    intro r
    induction r with
    | nil => exact nil
    | cons x r ih => rw [List.reverse_cons]; exact append_singleton _ _ ih
  have := key l.reverse
  rwa [List.reverse_reverse] at this

/-- A text without the return at its end. -/
def trimCR (l : List UInt8) : List UInt8 := if l.getLast? = some 13 then l.dropLast else l
/-- Where the physical line begins in which the byte i stands. -/
def lo (b : List UInt8) : Nat → Nat
  | 0 => 0
  | i + 1 => if b[i]? = some 10 then i + 1 else lo b i
/-- The physical lines that have ended ahead of i. -/
def pl (b : List UInt8) : Nat → List (Nat × List UInt8)
  | 0 => []
  | i + 1 => if b[i]? = some 10 then pl b i ++ [((pl b i).length + 1, trimCR ((b.take i).drop (lo b i)))] else pl b i
/-- What stands behind the last line end, if anything stands there. -/
def rst (b : List UInt8) : List (Nat × List UInt8) := if lo b b.length < b.length then [((pl b b.length).length + 1, b.drop (lo b b.length))] else []
def phys (b : List UInt8) : List (Nat × List UInt8) := pl b b.length ++ rst b

theorem lo_le (b : List UInt8) : ∀ i, lo b i ≤ i
  | 0 => Nat.le_refl _
  | i + 1 => by unfold lo; split <;> have := lo_le b i <;> omega
theorem lo_lf (b : List UInt8) (i : Nat) (h : b[i]? = some 10) : lo b (i + 1) = i + 1 := by simp [lo, h]
theorem lo_no (b : List UInt8) (i : Nat) (h : ¬ b[i]? = some 10) : lo b (i + 1) = lo b i := by simp [lo, h]
theorem pl_lf (b : List UInt8) (i : Nat) (h : b[i]? = some 10) : pl b (i + 1) = pl b i ++ [((pl b i).length + 1, trimCR ((b.take i).drop (lo b i)))] := by simp [pl, h]
theorem pl_no (b : List UInt8) (i : Nat) (h : ¬ b[i]? = some 10) : pl b (i + 1) = pl b i := by simp [pl, h]
theorem skip (b : List UInt8) (i : Nat) : ∀ d, (∀ k, k < d → ¬ b[i + k]? = some 10) → lo b (i + d) = lo b i ∧ pl b (i + d) = pl b i
  | 0, _ => ⟨rfl, rfl⟩
  | d + 1, h => by
    obtain ⟨h1, h2⟩ := skip b i d (fun k hk => h k (by omega))
    have h3 := h d (by omega)
    exact ⟨(lo_no b (i + d) h3).trans h1, (pl_no b (i + d) h3).trans h2⟩
theorem pl_len (b : List UInt8) : ∀ i, (pl b i).length ≤ i
  | 0 => Nat.le_refl _
  | i + 1 => by
    have := pl_len b i
    unfold pl
    split
    · simp; omega
    · omega
theorem pl_pre (b : List UInt8) (i : Nat) : ∀ d, pl b i <+: pl b (i + d)
  | 0 => List.prefix_refl _
  | d + 1 => by
    refine (pl_pre b i d).trans ?_
    show pl b (i + d) <+: pl b (i + d + 1)
    rw [pl]
    split
    · exact List.prefix_append _ _
    · exact List.prefix_refl _
theorem pl_phys (b : List UInt8) (i : Nat) (h : i ≤ b.length) : pl b i <+: phys b := by
  have := pl_pre b i (b.length - i)
  rw [show i + (b.length - i) = b.length from by omega] at this
  exact this.trans (List.prefix_append _ _)
theorem phys_len (b : List UInt8) : (phys b).length ≤ b.length + 1 := by
  unfold phys rst
  have := pl_len b b.length
  split <;> simp <;> omega

/-- A line that goes on. -/
def goes (x : List UInt8) : Bool := x.head? == some 32
/-- The fault of a line behind another. -/
def flt (ahead x : List UInt8) : Option Nat := if x.contains 13 then some 70 else if goes x && ahead.isEmpty then some 71 else none
theorem num_snoc (l : List (Nat × List UInt8)) (x : List UInt8) (h : ∀ i (hi : i < l.length), l[i].1 = i + 1) : ∀ i (hi : i < (l ++ [(l.length + 1, x)]).length), (l ++ [(l.length + 1, x)])[i].1 = i + 1 := by
  intro i hi
  by_cases hl : i < l.length
  · rw [List.getElem_append_left hl]
    exact h i hl
  · have e : i = l.length := by simp at hi; omega
    subst e
    simp
theorem pl_num (b : List UInt8) : ∀ k i (hi : i < (pl b k).length), (pl b k)[i].1 = i + 1
  | 0 => fun i hi => by simp [pl] at hi
  | k + 1 => by
    have ih := pl_num b k
    by_cases hc : b[k]? = some 10
    · rw [pl_lf b k hc]
      exact num_snoc _ _ ih
    · rw [pl_no b k hc]
      exact ih
/-- Physical lines are numbered from 1. -/
theorem phys_num (b : List UInt8) : ∀ i (hi : i < (phys b).length), (phys b)[i].1 = i + 1 := by
  by_cases h : lo b b.length < b.length
  · have e : phys b = pl b b.length ++ [((pl b b.length).length + 1, b.drop (lo b b.length))] := by unfold phys rst; rw [if_pos h]
    rw [e]
    exact num_snoc _ _ (pl_num b b.length)
  · have e : phys b = pl b b.length := by unfold phys rst; rw [if_neg h, List.append_nil]
    rw [e]
    exact pl_num b b.length

/-- The first fault of lines, the one ahead of them at hand. -/
def ferr (ahead : List UInt8) : List (Nat × List UInt8) → Option (Nat × Nat)
  | [] => none
  | x :: xs => match flt ahead x.2 with | some e => some (e, x.1) | none => ferr x.2 xs
def lastA (a : List UInt8) (l : List (Nat × List UInt8)) : List UInt8 := (l.getLast?.map (·.2)).getD a
theorem lastA_snoc (a : List UInt8) (l : List (Nat × List UInt8)) (x : Nat × List UInt8) : lastA a (l ++ [x]) = x.2 := by simp [lastA]
theorem lastA_cons (a : List UInt8) (y : Nat × List UInt8) (l : List (Nat × List UInt8)) : lastA a (y :: l) = lastA y.2 l := by
  unfold lastA
  cases l with
  | nil => rfl
  | cons z l => rw [List.getLast?_cons_cons, List.getLast?_cons]; rfl
theorem ferr_app (xs : List (Nat × List UInt8)) : ∀ (pre : List (Nat × List UInt8)) (a : List UInt8), ferr a pre = none → ferr a (pre ++ xs) = ferr (lastA a pre) xs
  | [], a, _ => by simp [lastA]
  | y :: pre, a, h => by
    unfold ferr at h
    cases hf : flt a y.2 with
    | some e => rw [hf] at h; cases h
    | none =>
      rw [hf] at h
      have ih := ferr_app xs pre y.2 h
      show (match flt a y.2 with | some e => _ | none => ferr y.2 (pre ++ xs)) = _
      rw [hf, lastA_cons]
      exact ih
theorem ferr_ok (pre : List (Nat × List UInt8)) (x : Nat × List UInt8) (h : ferr [] pre = none) (hx : flt (lastA [] pre) x.2 = none) : ferr [] (pre ++ [x]) = none := by
  rw [ferr_app [x] pre [] h]
  simp [ferr, hx]
theorem ferr_bad (pre post : List (Nat × List UInt8)) (x : Nat × List UInt8) (e : Nat) (h : ferr [] pre = none) (hx : flt (lastA [] pre) x.2 = some e) : ferr [] (pre ++ [x] ++ post) = some (e, x.1) := by
  rw [List.append_assoc, ferr_app _ pre [] h]
  simp [ferr, hx]
theorem ferr_front (x : Nat × List UInt8) : ∀ (pre : List (Nat × List UInt8)) (a : List UInt8), ferr a (pre ++ [x]) = none → ferr a pre = none ∧ flt (lastA a pre) x.2 = none := by
  intro pre
  induction pre with
  | nil =>
    intro a h
    refine ⟨rfl, ?_⟩
    unfold ferr at h
    simp only [List.nil_append] at h
    cases hf : flt a x.2 with
    | none => simpa [lastA] using hf
    | some e => rw [hf] at h; cases h
  | cons y pre ih =>
    intro a h
    have h' : (match flt a y.2 with | some e => some (e, y.1) | none => ferr y.2 (pre ++ [x])) = none := h
    cases hf : flt a y.2 with
    | some e => rw [hf] at h'; cases h'
    | none =>
      rw [hf] at h'
      obtain ⟨h1, h2⟩ := ih y.2 h'
      refine ⟨?_, ?_⟩
      · show (match flt a y.2 with | some e => _ | none => ferr y.2 pre) = none
        rw [hf]
        exact h1
      · rw [lastA_cons]
        exact h2
theorem flt_ok {a x : List UInt8} (h : flt a x = none) : x.contains 13 = false ∧ (goes x && a.isEmpty) = false := by
  unfold flt at h
  split at h
  · cases h
  · rename_i h1
    split at h
    · cases h
    · rename_i h2
      exact ⟨by simpa using h1, by simpa using h2⟩

/-- What is behind the last line goes behind its text. -/
def addLast (L : List (Nat × List UInt8)) (r : List UInt8) : List (Nat × List UInt8) := match L.getLast? with | none => [] | some p => L.dropLast ++ [(p.1, p.2 ++ r)]
theorem addLast_snoc (L : List (Nat × List UInt8)) (n : Nat) (t r : List UInt8) : addLast (L ++ [(n, t)]) r = L ++ [(n, t ++ r)] := by simp [addLast]
def stepJ (L : List (Nat × List UInt8)) (x : Nat × List UInt8) : List (Nat × List UInt8) := if goes x.2 then addLast L x.2.tail else L ++ [x]
/-- The logical lines. -/
def joinS (l : List (Nat × List UInt8)) : List (Nat × List UInt8) := l.foldl stepJ []
theorem joinS_nil : joinS [] = [] := rfl
theorem joinS_on (l : List (Nat × List UInt8)) (x : Nat × List UInt8) (h : goes x.2 = true) : joinS (l ++ [x]) = addLast (joinS l) x.2.tail := by
  unfold joinS
  rw [List.foldl_append]
  simp [stepJ, h]
theorem joinS_new (l : List (Nat × List UInt8)) (x : Nat × List UInt8) (h : goes x.2 = false) : joinS (l ++ [x]) = joinS l ++ [x] := by
  unfold joinS
  rw [List.foldl_append]
  simp [stepJ, h]
theorem joinS_ne : ∀ (l : List (Nat × List UInt8)), ferr [] l = none → l ≠ [] → joinS l ≠ [] := by
  intro l
  induction l using snocInd with
  | nil => intro _ h; exact absurd rfl h
  | append_singleton pre x ih =>
    intro h _
    obtain ⟨h1, h2⟩ := ferr_front x pre [] h
    cases hg : goes x.2 with
    | false => rw [joinS_new pre x hg]; simp
    | true =>
      rw [joinS_on pre x hg]
      have hn : pre ≠ [] := by
        rintro rfl
        have := (flt_ok h2).2
        simp [hg, lastA] at this
      obtain ⟨L, p, hL⟩ : ∃ L p, joinS pre = L ++ [p] := ⟨(joinS pre).dropLast, (joinS pre).getLast (ih h1 hn), (List.dropLast_concat_getLast _).symm⟩
      rw [hL]
      simp [addLast]
theorem joinS_last (l : List (Nat × List UInt8)) (h : ferr [] l = none) (hn : l ≠ []) : ∃ L n t, joinS l = L ++ [(n, t)] :=
  ⟨(joinS l).dropLast, ((joinS l).getLast (joinS_ne l h hn)).1, ((joinS l).getLast (joinS_ne l h hn)).2, (List.dropLast_concat_getLast _).symm⟩
/-- A line that goes on has one ahead of it to go on. -/
theorem joinS_goes (pre : List (Nat × List UInt8)) (x : List UInt8) (h : ferr [] pre = none) (hx : flt (lastA [] pre) x = none) (hg : goes x = true) : ∃ L n t, joinS pre = L ++ [(n, t)] := by
  refine joinS_last pre h ?_
  rintro rfl
  have := (flt_ok hx).2
  simp [hg, lastA] at this
/-- All bytes of lines. -/
def ltot (l : List (Nat × List UInt8)) : Nat := (l.map (fun p => p.2.length)).sum
theorem ltot_snoc (l : List (Nat × List UInt8)) (x : Nat × List UInt8) : ltot (l ++ [x]) = ltot l + x.2.length := by simp [ltot]
theorem trimCR_len (l : List UInt8) : (trimCR l).length ≤ l.length := by unfold trimCR; split <;> simp
theorem pl_tot (b : List UInt8) : ∀ i, i ≤ b.length → ltot (pl b i) ≤ lo b i
  | 0, _ => Nat.le_refl _
  | i + 1, h => by
    have ih := pl_tot b i (by omega)
    by_cases hc : b[i]? = some 10
    · rw [pl_lf b i hc, lo_lf b i hc, ltot_snoc]
      have h1 := trimCR_len ((b.take i).drop (lo b i))
      rw [List.length_drop, List.length_take] at h1
      have h2 := lo_le b i
      simp only
      omega
    · rw [pl_no b i hc, lo_no b i hc]
      exact ih
theorem phys_tot (b : List UInt8) : ltot (phys b) ≤ b.length := by
  have h1 := pl_tot b b.length (Nat.le_refl _)
  have h2 := lo_le b b.length
  unfold phys rst
  split
  · rw [ltot_snoc]; simp only [List.length_drop]; omega
  · simp; omega
theorem ltot_pre {l k : List (Nat × List UInt8)} (h : l <+: k) : ltot l ≤ ltot k := by
  obtain ⟨m, rfl⟩ := h
  simp [ltot]
theorem joinS_sizes : ∀ (l : List (Nat × List UInt8)), (joinS l).length ≤ l.length ∧ ∀ p ∈ joinS l, p.2.length ≤ ltot l := by
  intro l
  induction l using snocInd with
  | nil => simp [joinS_nil]
  | append_singleton pre x ih =>
    obtain ⟨h1, h2⟩ := ih
    cases hg : goes x.2 with
    | false =>
      rw [joinS_new pre x hg]
      refine ⟨by simp; omega, ?_⟩
      intro p hp
      rw [ltot_snoc]
      rcases List.mem_append.1 hp with hp | hp
      · have := h2 p hp
        omega
      · simp at hp
        subst hp
        omega
    | true =>
      rw [joinS_on pre x hg]
      unfold addLast
      cases hl : (joinS pre).getLast? with
      | none => simp
      | some q =>
        have hq : q ∈ joinS pre := List.mem_of_getLast? hl
        have hne : joinS pre ≠ [] := by rintro e; rw [e] at hl; cases hl
        have hpos : 0 < (joinS pre).length := List.length_pos_iff.2 hne
        refine ⟨by simp; omega, ?_⟩
        intro p hp
        rw [ltot_snoc]
        have ht : x.2.tail.length ≤ x.2.length := by simp
        rcases List.mem_append.1 hp with hp | hp
        · have := h2 p (List.dropLast_subset _ hp)
          omega
        · simp at hp
          subst hp
          have := h2 q hq
          simp only [List.length_append]
          omega
end Go.Proofs.Ytcngdlaaadijpaa.LdMath
