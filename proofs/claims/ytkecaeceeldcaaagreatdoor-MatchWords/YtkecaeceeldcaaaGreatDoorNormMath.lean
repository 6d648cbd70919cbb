namespace Go.Proofs.YtkecaeceeldcaaaGreatDoor
namespace TextMath

def lo (b : UInt8) : UInt8 := if 65 ≤ b.toNat ∧ b.toNat ≤ 90 then UInt8.ofNat (b.toNat + 32) else b
def bl (b : UInt8) : Bool := decide (b.toNat = 32) || (decide (9 ≤ b.toNat) && decide (b.toNat ≤ 13))

theorem lo_toNat (b : UInt8) : (lo b).toNat = if 65 ≤ b.toNat ∧ b.toNat ≤ 90 then b.toNat + 32 else b.toNat := by
  unfold lo; split
  · rw [UInt8.toNat_ofNat']; omega
  · rfl
theorem lo_lo (b : UInt8) : lo (lo b) = lo b := by
  apply UInt8.toNat_inj.1
  rw [lo_toNat, lo_toNat]; repeat' split
  all_goals omega
theorem bl_lo (b : UInt8) : bl (lo b) = bl b := by
  have := lo_toNat b
  unfold bl
  rw [Bool.eq_iff_iff]; simp only [Bool.or_eq_true, Bool.and_eq_true, decide_eq_true_eq]
  split at this <;> omega
theorem lo_32 : lo 32 = 32 := by decide
theorem bl_32 : bl 32 = true := by decide

def fold (l : List UInt8) : List UInt8 := l.map lo
/-- Collapse: the text that is left, and whether a run has begun. -/
def col : Bool → List UInt8 → List UInt8
  | _, [] => []
  | r, b :: t => if bl b then (if r then col true t else 32 :: col true t) else b :: col false t
def trimP (l : List UInt8) : List UInt8 := if l.head? = some 32 then l.drop 1 else l
def trimS (l : List UInt8) : List UInt8 := if l.getLast? = some 32 then l.dropLast else l
def squeeze (l : List UInt8) : List UInt8 := trimS (trimP (col false l))
def normal (l : List UInt8) : List UInt8 := squeeze (fold l)

def sqB : Bool → List UInt8 → List UInt8
  | _, [] => []
  | p, b :: t => if bl b then sqB true t else (if p then [32, b] else [b]) ++ sqB false t
def sqA : List UInt8 → List UInt8
  | [] => []
  | b :: t => if bl b then sqA t else b :: sqB false t

theorem ne32 {b : UInt8} (h : bl b = false) : b ≠ 32 := by rintro rfl; rw [bl_32] at h; cases h

theorem trimS_snoc (p : List UInt8) (x : UInt8) (h : x ≠ 32) : trimS (p ++ [x]) = p ++ [x] := by
  unfold trimS; rw [if_neg]; simp [h]
theorem trimS_sp (p : List UInt8) : trimS (p ++ [32]) = p := by
  unfold trimS; rw [if_pos (by simp)]; simp

theorem trimS_col (l : List UInt8) : (∀ p x, x ≠ 32 → trimS (p ++ [x] ++ col false l) = p ++ [x] ++ sqB false l) ∧ (∀ p x, x ≠ 32 → trimS (p ++ [x] ++ [32] ++ col true l) = p ++ [x] ++ sqB true l) := by
  induction l with
  | nil => exact ⟨fun p x h => by simp [col, sqB, trimS_snoc p x h], fun p x h => by simp only [col, sqB, List.append_nil]; exact trimS_sp _⟩
  | cons b t ih =>
    by_cases hb : bl b = true
    · refine ⟨fun p x h => ?_, fun p x h => ?_⟩
      · simp only [col, sqB, hb, if_true]
        have := ih.2 p x h
        simpa using this
      · simp only [col, sqB, hb, if_true]
        exact ih.2 p x h
    · have hb' : bl b = false := by simpa using hb
      refine ⟨fun p x h => ?_, fun p x h => ?_⟩
      · simp only [col, sqB, hb', Bool.false_eq_true, if_false]
        have := ih.1 (p ++ [x]) b (ne32 hb')
        simpa using this
      · simp only [col, sqB, hb', Bool.false_eq_true, if_false, if_true]
        have := ih.1 (p ++ [x] ++ [32]) b (ne32 hb')
        simpa using this

theorem trimS_colT (l : List UInt8) : trimS (col true l) = sqA l := by
  induction l with
  | nil => rfl
  | cons b t ih =>
    by_cases hb : bl b = true
    · simp only [col, sqA, hb, if_true]; exact ih
    · have hb' : bl b = false := by simpa using hb
      simp only [col, sqA, hb', Bool.false_eq_true, if_false]
      have := (trimS_col t).1 [] b (ne32 hb')
      simpa using this

theorem squeeze_eq (l : List UInt8) : squeeze l = sqA l := by
  unfold squeeze
  cases l with
  | nil => rfl
  | cons b t =>
    by_cases hb : bl b = true
    · simp only [col, sqA, hb, if_true, Bool.false_eq_true, if_false]
      have : trimP (32 :: col true t) = col true t := by simp [trimP]
      rw [this, trimS_colT]
    · have hb' : bl b = false := by simpa using hb
      simp only [col, sqA, hb', Bool.false_eq_true, if_false]
      have : trimP (b :: col false t) = b :: col false t := by
        unfold trimP; rw [if_neg]; simp [ne32 hb']
      rw [this]
      have := (trimS_col t).1 [] b (ne32 hb')
      simpa using this

theorem fold_fold (l : List UInt8) : fold (fold l) = fold l := by
  unfold fold; rw [List.map_map]; apply List.map_congr_left; intro b _; exact lo_lo b
theorem fold_sqB (l : List UInt8) : ∀ p, fold (sqB p l) = sqB p (fold l) := by
  induction l with
  | nil => intro p; rfl
  | cons b t ih =>
    intro p
    simp only [sqB, fold, List.map_cons, bl_lo] at ih ⊢
    by_cases hb : bl b = true
    · simp only [hb, if_true]; exact ih true
    · cases p <;> simp [hb, ih, lo_32]
theorem fold_sqA (l : List UInt8) : fold (sqA l) = sqA (fold l) := by
  induction l with
  | nil => rfl
  | cons b t ih =>
    have := fold_sqB t false
    simp only [sqA, fold, List.map_cons, bl_lo] at ih this ⊢
    by_cases hb : bl b = true
    · simp only [hb, if_true]; exact ih
    · simp [hb, this]

theorem sqB_sqB (l : List UInt8) : ∀ p, sqB false (sqB p l) = sqB p l := by
  induction l with
  | nil => intro p; rfl
  | cons b t ih =>
    intro p
    by_cases hb : bl b = true
    · simp only [sqB, hb, if_true]; exact ih true
    · have hb' : bl b = false := by simpa using hb
      cases p
      · simp [sqB, hb', ih]
      · simp [sqB, hb', ih, bl_32]
theorem sqA_sqA (l : List UInt8) : sqA (sqA l) = sqA l := by
  induction l with
  | nil => rfl
  | cons b t ih =>
    by_cases hb : bl b = true
    · simp only [sqA, hb, if_true]; exact ih
    · have hb' : bl b = false := by simpa using hb
      simp [sqA, hb', sqB_sqB]
theorem col_sqB (l : List UInt8) : ∀ p, col false (sqB p l) = sqB p l := by
  induction l with
  | nil => intro p; rfl
  | cons b t ih =>
    intro p
    by_cases hb : bl b = true
    · simp only [sqB, hb, if_true]; exact ih true
    · have hb' : bl b = false := by simpa using hb
      cases p
      · simp [sqB, col, hb', ih]
      · simp [sqB, col, hb', ih, bl_32]
theorem col_sqA (l : List UInt8) : col false (sqA l) = sqA l := by
  induction l with
  | nil => rfl
  | cons b t ih =>
    by_cases hb : bl b = true
    · simp only [sqA, hb, if_true]; exact ih
    · have hb' : bl b = false := by simpa using hb
      simp [sqA, col, hb', col_sqB]
theorem sqB_col (l : List UInt8) : (∀ p, sqB p (col false l) = sqB p l) ∧ sqB true (col true l) = sqB true l := by
  induction l with
  | nil => exact ⟨fun _ => rfl, rfl⟩
  | cons b t ih =>
    by_cases hb : bl b = true
    · refine ⟨fun p => ?_, ?_⟩
      · simp [col, sqB, hb, bl_32, ih.2]
      · simp [col, sqB, hb, ih.2]
    · have hb' : bl b = false := by simpa using hb
      refine ⟨fun p => ?_, ?_⟩
      · simp [col, sqB, hb', ih.1]
      · simp [col, sqB, hb', ih.1]
theorem sqA_col (l : List UInt8) : ∀ r, sqA (col r l) = sqA l := by
  induction l with
  | nil => intro r; rfl
  | cons b t ih =>
    intro r
    by_cases hb : bl b = true
    · cases r <;> simp [col, sqA, hb, bl_32, ih]
    · have hb' : bl b = false := by simpa using hb
      simp [col, sqA, hb', (sqB_col t).1]
theorem sqB_true (l : List UInt8) : sqB true l = if sqA l = [] then [] else 32 :: sqA l := by
  induction l with
  | nil => rfl
  | cons b t ih =>
    by_cases hb : bl b = true
    · simp only [sqB, sqA, hb, if_true]; exact ih
    · have hb' : bl b = false := by simpa using hb
      simp [sqB, sqA, hb']
theorem sqB_app (a b : List UInt8) (c : UInt8) (hc : bl c = true) : ∀ p, sqB p (a ++ c :: b) = sqB p a ++ sqB true b := by
  induction a with
  | nil => intro p; simp [sqB, hc]
  | cons x t ih =>
    intro p
    by_cases hb : bl x = true
    · simp [sqB, hb, ih]
    · have hb' : bl x = false := by simpa using hb
      simp [sqB, hb', ih]
def join (n m : List UInt8) : List UInt8 := if n = [] ∨ m = [] then n ++ m else n ++ [32] ++ m
theorem sqA_app (a b : List UInt8) (c : UInt8) (hc : bl c = true) : sqA (a ++ c :: b) = join (sqA a) (sqA b) := by
  induction a with
  | nil => simp [sqA, hc, join]
  | cons x t ih =>
    by_cases hb : bl x = true
    · simp only [List.cons_append, sqA, hb, if_true]; exact ih
    · have hb' : bl x = false := by simpa using hb
      simp only [List.cons_append, sqA, hb', Bool.false_eq_true, if_false, join, sqB_app t b c hc, sqB_true b]
      by_cases h : sqA b = [] <;> simp [h]

theorem normal_eq (l : List UInt8) : normal l = sqA (fold l) := squeeze_eq _
theorem fold_normal (l : List UInt8) : fold (normal l) = normal l := by rw [normal_eq, fold_sqA, fold_fold]
theorem normal_normal (l : List UInt8) : normal (normal l) = normal l := by
  rw [normal_eq (normal l), fold_normal, normal_eq, sqA_sqA]
theorem col_normal (l : List UInt8) : col false (normal l) = normal l := by rw [normal_eq, col_sqA]
theorem squeeze_normal (l : List UInt8) : squeeze (normal l) = normal l := by rw [squeeze_eq, normal_eq, sqA_sqA]
theorem normal_fold (l : List UInt8) : normal (fold l) = normal l := by rw [normal_eq, normal_eq, fold_fold]
theorem fold_col (l : List UInt8) : ∀ r, fold (col r l) = col r (fold l) := by
  induction l with
  | nil => intro r; rfl
  | cons b t ih =>
    intro r
    simp only [col, fold, List.map_cons, bl_lo] at ih ⊢
    by_cases hb : bl b = true
    · cases r <;> simp [hb, ih, lo_32]
    · simp [hb, ih]
theorem normal_col (l : List UInt8) : normal (col false l) = normal l := by rw [normal_eq, normal_eq, fold_col, sqA_col]
theorem fold_squeeze (l : List UInt8) : fold (squeeze l) = normal l := by rw [squeeze_eq, fold_sqA, normal_eq]
theorem normal_squeeze (l : List UInt8) : normal (squeeze l) = normal l := by rw [normal_eq, fold_squeeze, normal_eq, sqA_sqA]
theorem fold_app (a b : List UInt8) : fold (a ++ b) = fold a ++ fold b := by simp [fold]
theorem normal_tab (a b : List UInt8) : normal (a ++ [9] ++ b) = join (normal a) (normal b) := by
  rw [normal_eq, normal_eq, normal_eq, List.append_assoc, fold_app, fold_app]
  exact sqA_app _ _ 9 (by decide)
theorem normal_two (a b : List UInt8) : normal (a ++ [32, 32] ++ b) = join (normal a) (normal b) := by
  rw [normal_eq, normal_eq, normal_eq, List.append_assoc, fold_app, fold_app]
  have h := sqA_app (fold a) (32 :: fold b) 32 (by decide)
  have e : sqA (32 :: fold b) = sqA (fold b) := by simp [sqA, bl_32]
  rw [e] at h
  exact h
theorem normal_word : normal [32, 65, 9, 98, 32] = [97, 32, 98] := by decide
theorem col_length (l : List UInt8) : ∀ r, (col r l).length ≤ l.length := by
  induction l with
  | nil => intro r; simp [col]
  | cons b t ih =>
    intro r
    have h1 := ih true
    have h2 := ih false
    simp only [col]
    split
    · split <;> simp <;> omega
    · simp; omega
end TextMath
end Go.Proofs.YtkecaeceeldcaaaGreatDoor
