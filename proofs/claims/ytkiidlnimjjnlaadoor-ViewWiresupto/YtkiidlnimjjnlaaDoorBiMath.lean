import Derived.WalkKit
namespace Go.Proofs.YtkiidlnimjjnlaaDoor
namespace BerMath

/-- The lowest byte of a number. -/
def lo (n : Int) : UInt8 := UInt8.ofNat (n % 256).toNat
theorem lo_n (n : Int) : ((lo n).toNat : Int) = n % 256 := by
  unfold lo
  rw [UInt8.toNat_ofNat', Nat.mod_eq_of_lt (by omega)]
  omega
theorem lo_eq (n : Int) (b : UInt8) (h : n % 256 = (b.toNat : Int)) : lo n = b := by
  unfold lo
  rw [h]
  simp

/-- How many bytes a number takes. -/
def sz (n : Int) : Nat :=
  if -128 ≤ n ∧ n ≤ 127 then 1 else if -32768 ≤ n ∧ n ≤ 32767 then 2 else if -8388608 ≤ n ∧ n ≤ 8388607 then 3 else if -2147483648 ≤ n ∧ n ≤ 2147483647 then 4
  else if -549755813888 ≤ n ∧ n ≤ 549755813887 then 5 else if -140737488355328 ≤ n ∧ n ≤ 140737488355327 then 6 else if -36028797018963968 ≤ n ∧ n ≤ 36028797018963967 then 7 else 8

theorem sz_one (n : Int) (h : -128 ≤ n ∧ n ≤ 127) : sz n = 1 := by unfold sz; rw [if_pos h]
theorem sz_up (n : Int) (h : ¬ (-128 ≤ n ∧ n ≤ 127)) (h1 : -9223372036854775808 ≤ n) (h2 : n ≤ 9223372036854775807) : sz n = sz (n / 256) + 1 := by
  unfold sz
  rw [if_neg h]
  repeat' split
  all_goals omega
theorem sz_pos (n : Int) : 1 ≤ sz n ∧ sz n ≤ 8 := by
  unfold sz
  repeat' split
  all_goals omega
theorem sz_one_iff (n : Int) (h : sz n = 1) : -128 ≤ n ∧ n ≤ 127 := by
  unfold sz at h
  split at h
  · assumption
  · repeat' split at h
    all_goals omega
theorem sz_seven (n : Int) (h : sz n ≤ 7) : -36028797018963968 ≤ n ∧ n ≤ 36028797018963967 := by
  unfold sz at h
  repeat' split at h
  all_goals omega

/-- The lowest bytes of a number, the highest of them first. -/
def be : Nat → Int → List UInt8
  | 0, _ => []
  | k + 1, n => be k (n / 256) ++ [lo n]
theorem be_len (k : Nat) (n : Int) : (be k n).length = k := by
  induction k generalizing n with
  | zero => rfl
  | succ k ih => simp [be, ih]
/-- A number's content. -/
def enc (n : Int) : List UInt8 := be (sz n) n
theorem enc_len (n : Int) : (enc n).length = sz n := be_len _ _
theorem enc_one (n : Int) (h : -128 ≤ n ∧ n ≤ 127) : enc n = [lo n] := by unfold enc; rw [sz_one n h]; rfl
theorem enc_up (n : Int) (h : ¬ (-128 ≤ n ∧ n ≤ 127)) (h1 : -9223372036854775808 ≤ n) (h2 : n ≤ 9223372036854775807) : enc n = enc (n / 256) ++ [lo n] := by
  unfold enc; rw [sz_up n h h1 h2]; rfl

/-- The sign that a content begins with. -/
def sg (l : List UInt8) : Int := if 128 ≤ (l.getD 0 0).toNat then -1 else 0
def fo (v : Int) (l : List UInt8) : Int := l.foldl (fun n b => n * 256 + (b.toNat : Int)) v
def val (l : List UInt8) : Int := fo (sg l) l
theorem fo_snoc (v : Int) (l : List UInt8) (b : UInt8) : fo v (l ++ [b]) = fo v l * 256 + (b.toNat : Int) := by simp [fo]
theorem sg_app (l k : List UInt8) (h : l ≠ []) : sg (l ++ k) = sg l := by
  cases l with
  | nil => exact absurd rfl h
  | cons x xs => rfl
theorem val_snoc (l : List UInt8) (b : UInt8) (h : l ≠ []) : val (l ++ [b]) = val l * 256 + (b.toNat : Int) := by
  unfold val; rw [sg_app _ _ h, fo_snoc]
theorem val_one (b : UInt8) : val [b] = if 128 ≤ b.toNat then (b.toNat : Int) - 256 else (b.toNat : Int) := by
  show fo (if 128 ≤ b.toNat then -1 else 0) [b] = _
  split <;> simp [fo] <;> omega
theorem be_ne (k : Nat) (n : Int) (h : 1 ≤ k) : be k n ≠ [] := by
  intro e; have := be_len k n; rw [e] at this; simp at this; omega

theorem val_be (k : Nat) (n : Int) (h1 : -9223372036854775808 ≤ n) (h2 : n ≤ 9223372036854775807) (hk : sz n = k) : val (be k n) = n := by
  induction k generalizing n with
  | zero => have := sz_pos n; omega
  | succ k ih =>
    by_cases h : -128 ≤ n ∧ n ≤ 127
    · have : k = 0 := by rw [sz_one n h] at hk; omega
      subst this
      show val ([] ++ [lo n]) = n
      rw [List.nil_append, val_one]
      have := lo_n n
      split <;> omega
    · have hu := sz_up n h h1 h2
      have hp := sz_pos (n / 256)
      show val (be k (n / 256) ++ [lo n]) = n
      rw [val_snoc _ _ (be_ne _ _ (by omega)), ih (n / 256) (by omega) (by omega) (by omega), lo_n]
      omega
theorem val_enc (n : Int) (h1 : -9223372036854775808 ≤ n) (h2 : n ≤ 9223372036854775807) : val (enc n) = n := val_be _ n h1 h2 rfl

/-- A first byte that says nothing. -/
def pad : List UInt8 → Bool
  | x :: y :: _ => decide (x.toNat = 0 ∧ y.toNat < 128) || decide (x.toNat = 255 ∧ 128 ≤ y.toNat)
  | _ => false
theorem pad_app (l k : List UInt8) (h : 2 ≤ l.length) : pad (l ++ k) = pad l := by
  rcases l with _ | ⟨x, _ | ⟨y, l⟩⟩
  · simp at h
  · simp at h
  · rfl
theorem pad_two (x y : UInt8) (h : ¬ (-128 ≤ val [x, y] ∧ val [x, y] ≤ 127)) : pad [x, y] = false := by
  have e : val [x, y] = val [x] * 256 + (y.toNat : Int) := val_snoc [x] y (by simp)
  rw [e, val_one] at h
  have hx := x.toNat_lt
  have hy := y.toNat_lt
  simp only [pad, Bool.or_eq_false_iff, decide_eq_false_iff_not]
  split at h <;> omega
theorem pad_two' (x y : UInt8) (h : pad [x, y] = false) : ¬ (-128 ≤ val [x, y] ∧ val [x, y] ≤ 127) := by
  have e : val [x, y] = val [x] * 256 + (y.toNat : Int) := val_snoc [x] y (by simp)
  rw [e, val_one]
  have hx := x.toNat_lt
  have hy := y.toNat_lt
  simp only [pad, Bool.or_eq_false_iff, decide_eq_false_iff_not] at h
  split <;> omega

theorem pad_be (k : Nat) (n : Int) (h1 : -9223372036854775808 ≤ n) (h2 : n ≤ 9223372036854775807) (hk : sz n = k) : pad (be k n) = false := by
  induction k generalizing n with
  | zero => rfl
  | succ k ih =>
    by_cases h : -128 ≤ n ∧ n ≤ 127
    · have : k = 0 := by rw [sz_one n h] at hk; omega
      subst this
      rfl
    · have hu := sz_up n h h1 h2
      have hp := sz_pos (n / 256)
      show pad (be k (n / 256) ++ [lo n]) = false
      by_cases hk2 : 2 ≤ k
      · rw [pad_app _ _ (by rw [be_len]; exact hk2)]
        exact ih (n / 256) (by omega) (by omega) (by omega)
      · have hk1 : k = 1 := by omega
        subst hk1
        refine pad_two (lo (n / 256)) (lo n) ?_
        have : val (be 2 n) = n := val_be 2 n h1 h2 hk
        have e : be 2 n = [lo (n / 256), lo n] := rfl
        rw [← e, this]
        exact h
theorem pad_enc (n : Int) (h1 : -9223372036854775808 ≤ n) (h2 : n ≤ 9223372036854775807) : pad (enc n) = false := pad_be _ n h1 h2 rfl

theorem snoc_ind {p : List UInt8 → Prop} (h1 : ∀ b, p [b]) (h2 : ∀ l b, l ≠ [] → p l → p (l ++ [b])) (l : List UInt8) (h : l ≠ []) : p l := by
  have : ∀ k : Nat, ∀ l : List UInt8, l.length = k + 1 → p l := by
    intro k
    induction k with
    | zero =>
      intro l hl
      match l, hl with
      | [b], _ => exact h1 b
    | succ k ih =>
      intro l hl
      have hne : l ≠ [] := by intro e; rw [e] at hl; simp at hl
      rw [← List.dropLast_concat_getLast hne]
      refine h2 _ _ ?_ (ih _ (by rw [List.length_dropLast]; omega))
      intro e
      have := congrArg List.length e
      rw [List.length_dropLast] at this
      simp at this
      omega
  refine this (l.length - 1) l ?_
  have := List.length_pos_iff.mpr h
  omega

theorem be_val (l : List UInt8) (h : l ≠ []) : be l.length (val l) = l := by
  refine snoc_ind (p := fun l => be l.length (val l) = l) ?_ ?_ l h
  · intro b
    show [lo (val [b])] = [b]
    rw [lo_eq (val [b]) b (by rw [val_one]; have := b.toNat_lt; split <;> omega)]
  · intro l b hl ih
    have hb := b.toNat_lt
    have e1 : val (l ++ [b]) / 256 = val l := by rw [val_snoc l b hl]; omega
    have e2 : lo (val (l ++ [b])) = b := lo_eq _ _ (by rw [val_snoc l b hl]; omega)
    rw [List.length_append]
    show be l.length (val (l ++ [b]) / 256) ++ [lo (val (l ++ [b]))] = l ++ [b]
    rw [e1, e2, ih]

theorem sz_val (l : List UInt8) (h : l ≠ []) (h8 : l.length ≤ 8) (hp : pad l = false) : sz (val l) = l.length ∧ -9223372036854775808 ≤ val l ∧ val l ≤ 9223372036854775807 := by
  revert h8 hp
  refine snoc_ind (p := fun l => l.length ≤ 8 → pad l = false → sz (val l) = l.length ∧ -9223372036854775808 ≤ val l ∧ val l ≤ 9223372036854775807) ?_ ?_ l h
  · intro b _ _
    have hb := b.toNat_lt
    have e := val_one b
    have : -128 ≤ val [b] ∧ val [b] ≤ 127 := by rw [e]; split <;> omega
    exact ⟨sz_one _ this, by omega, by omega⟩
  · intro l b hl ih h8 hp
    rw [List.length_append] at h8
    have hb := b.toNat_lt
    have hpos := List.length_pos_iff.mpr hl
    have hv := val_snoc l b hl
    have h9 : l.length ≤ 7 := by simp at h8; omega
    by_cases h2 : 2 ≤ l.length
    · rw [pad_app _ _ h2] at hp
      obtain ⟨i1, i2, i3⟩ := ih (by omega) hp
      have hs := sz_seven (val l) (by omega)
      have hn : ¬ (-128 ≤ val l ∧ val l ≤ 127) := by
        intro hh
        have := sz_one _ hh
        omega
      have hr : -9223372036854775808 ≤ val (l ++ [b]) ∧ val (l ++ [b]) ≤ 9223372036854775807 := by rw [hv]; omega
      refine ⟨?_, hr⟩
      rw [sz_up _ (by rw [hv]; omega) hr.1 hr.2]
      have e1 : val (l ++ [b]) / 256 = val l := by rw [hv]; omega
      rw [e1, i1]; simp
    · match l, hl, h2 with
      | [x], _, _ =>
        have hn := pad_two' x b hp
        have hx := x.toNat_lt
        have hr : -32768 ≤ val [x, b] ∧ val [x, b] ≤ 32767 := by
          have e : val [x, b] = val [x] * 256 + (b.toNat : Int) := hv
          rw [e, val_one]
          split <;> omega
        show sz (val [x, b]) = 2 ∧ -9223372036854775808 ≤ val [x, b] ∧ val [x, b] ≤ 9223372036854775807
        refine ⟨?_, by omega, by omega⟩
        unfold sz
        rw [if_neg hn, if_pos hr]
      | x :: y :: t, _, h2 => simp at h2

theorem enc_val (l : List UInt8) (h : l ≠ []) (h8 : l.length ≤ 8) (hp : pad l = false) : enc (val l) = l := by
  unfold enc
  rw [(sz_val l h h8 hp).1]
  exact be_val l h
/-- Is it a number's content? -/
def okInt (l : List UInt8) : Bool := decide (1 ≤ l.length) && decide (l.length ≤ 8) && !pad l
theorem okInt_enc (n : Int) (h1 : -9223372036854775808 ≤ n) (h2 : n ≤ 9223372036854775807) : okInt (enc n) = true := by
  have := sz_pos n
  unfold okInt
  rw [pad_enc n h1 h2, enc_len]
  simp; omega
theorem okInt_iff (l : List UInt8) (h : okInt l = true) : l ≠ [] ∧ l.length ≤ 8 ∧ pad l = false := by
  unfold okInt at h
  simp at h
  refine ⟨?_, h.1.2, h.2⟩
  intro e; subst e; simp at h
theorem enc_inj (n m : Int) (h1 : -9223372036854775808 ≤ n) (h2 : n ≤ 9223372036854775807) (h3 : -9223372036854775808 ≤ m) (h4 : m ≤ 9223372036854775807) (h : enc n = enc m) : n = m := by
  rw [← val_enc n h1 h2, ← val_enc m h3 h4, h]
theorem sg_enc (n : Int) (h1 : -9223372036854775808 ≤ n) (h2 : n ≤ 9223372036854775807) : (128 ≤ ((enc n).getD 0 0).toNat) ↔ n < 0 := by
  have key : ∀ k : Nat, ∀ n : Int, -9223372036854775808 ≤ n → n ≤ 9223372036854775807 → sz n = k → ((128 ≤ ((be k n).getD 0 0).toNat) ↔ n < 0) := by
    intro k
    induction k with
    | zero => intro n _ _ h; have := sz_pos n; omega
    | succ k ih =>
      intro n h1 h2 hk
      by_cases h : -128 ≤ n ∧ n ≤ 127
      · have : k = 0 := by rw [sz_one n h] at hk; omega
        subst this
        show 128 ≤ (lo n).toNat ↔ n < 0
        have := lo_n n
        omega
      · have hu := sz_up n h h1 h2
        have hp := sz_pos (n / 256)
        have e : (be (k + 1) n).getD 0 0 = (be k (n / 256)).getD 0 0 := by
          have hl := be_len k (n / 256)
          show (be k (n / 256) ++ [lo n]).getD 0 0 = _
          simp only [List.getD]
          rw [List.getElem?_append_left (by omega)]
        rw [e, ih (n / 256) (by omega) (by omega) (by omega)]
        omega
  exact key _ n h1 h2 rfl
end BerMath
end Go.Proofs.YtkiidlnimjjnlaaDoor
