import Derived.Test.YtjklnmddoiilgaaHexMath
import Derived.Test.YtjklnmddoiilgaaBytes
namespace Go.Proofs.Ytjklnmddoiilgaa
namespace EscMath
open TextMath (wo pre)

/-- Letters, digits, the signs that stand as they are, the quiet bytes, the plain ones. -/
def lt (n : Nat) : Bool := (decide (97 ≤ n) && decide (n ≤ 122)) || (decide (65 ≤ n) && decide (n ≤ 90))
def di (n : Nat) : Bool := decide (48 ≤ n) && decide (n ≤ 57)
def sg : List UInt8 := [45, 46, 95, 126, 33, 36, 38, 39, 40, 41, 42, 43, 59, 61, 58, 64, 47]
def qt (c : UInt8) : Bool := lt c.toNat || di c.toNat || sg.contains c
def pl (c : UInt8) : Bool := decide (33 ≤ c.toNat) && decide (c.toNat ≤ 126) && decide (c.toNat ≠ 37)

/-- The great digit of a number below 16. -/
def ug (n : Nat) : UInt8 := UInt8.ofNat (if n < 10 then 48 + n else 55 + n)
theorem ug_toNat (n : Nat) (h : n < 16) : (ug n).toNat = if n < 10 then 48 + n else 55 + n := by
  unfold ug; rw [UInt8.toNat_ofNat']; split <;> omega
theorem wo_ug (n : Nat) (h : n < 16) : wo (ug n) = some n := by
  have := ug_toNat n h
  unfold wo; rw [this]
  by_cases h' : n < 10
  · rw [if_pos h', if_pos (by omega)]; congr 1; omega
  · rw [if_neg h', if_neg (by omega), if_neg (by omega), if_pos (by omega)]; congr 1; omega

/-- What Escape writes for a byte, and for a text. -/
def e1 (c : UInt8) : List UInt8 := if qt c then [c] else [37, ug (c.toNat / 16), ug (c.toNat % 16)]
def esc (l : List UInt8) : List UInt8 := l.flatMap e1
theorem esc_cons (c : UInt8) (t : List UInt8) : esc (c :: t) = e1 c ++ esc t := by simp [esc]
theorem e1_len (c : UInt8) : (e1 c).length = if qt c then 1 else 3 := by unfold e1; split <;> rfl
theorem e1_le (c : UInt8) : (e1 c).length ≤ 3 := by rw [e1_len]; split <;> omega
theorem esc_le (l : List UInt8) : (esc l).length ≤ 3 * l.length := by
  induction l with
  | nil => simp [esc]
  | cons c t ih => rw [esc_cons, List.length_append, List.length_cons]; have := e1_le c; omega
theorem esc_snoc (s : ByteArray) (k : Nat) (h : k < s.size) : esc (s.data.toList.take (k + 1)) = esc (s.data.toList.take k) ++ e1 s[k] := by
  rw [take_snoc s k h]; simp [esc]

/-- Unescape: the bytes, or the place. -/
def une : List UInt8 → Nat → Except Nat (List UInt8)
  | [], _ => .ok []
  | c :: t, k =>
    if c = 37 then
      match t with
      | a :: b :: r => match wo a, wo b with
        | some x, some y => pre [UInt8.ofNat (16 * x + y)] (une r (k + 3))
        | _, _ => .error k
      | _ => .error k
    else if pl c then pre [c] (une t (k + 1)) else .error k
theorem une_code (a b : UInt8) (r : List UInt8) (k x y : Nat) (ha : wo a = some x) (hb : wo b = some y) : une (37 :: a :: b :: r) k = pre [UInt8.ofNat (16 * x + y)] (une r (k + 3)) := by
  simp [une, ha, hb]
theorem une_bada (a b : UInt8) (r : List UInt8) (k : Nat) (h : wo a = none ∨ wo b = none) : une (37 :: a :: b :: r) k = .error k := by
  rcases h with h | h
  · simp [une, h]
  · cases ha : wo a <;> simp [une, h, ha]
theorem une_short (t : List UInt8) (k : Nat) (h : t.length < 2) : une (37 :: t) k = .error k := by
  match t, h with
  | [], _ => simp [une]
  | [a], _ => simp [une]
theorem une_plain (c : UInt8) (t : List UInt8) (k : Nat) (h : c ≠ 37) (hp : pl c = true) : une (c :: t) k = pre [c] (une t (k + 1)) := by
  match t with
  | [] => simp [une, h, hp]
  | [a] => simp [une, h, hp]
  | a :: b :: r => simp [une, h, hp]
theorem une_not (c : UInt8) (t : List UInt8) (k : Nat) (h : c ≠ 37) (hp : pl c = false) : une (c :: t) k = .error k := by
  match t with
  | [] => simp [une, h, hp]
  | [a] => simp [une, h, hp]
  | a :: b :: r => simp [une, h, hp]

theorem qt_pl (c : UInt8) (h : qt c = true) : pl c = true ∧ c ≠ 37 := by
  have hp : ∀ n : Fin 256, qt (UInt8.ofNat n.1) = true → pl (UInt8.ofNat n.1) = true ∧ UInt8.ofNat n.1 ≠ 37 := by decide +kernel
  have e : UInt8.ofNat c.toNat = c := by simp
  have := hp ⟨c.toNat, c.toNat_lt⟩
  simp only [e] at this
  exact this h
theorem qt_ug (n : Nat) (h : n < 16) : qt (ug n) = true := by
  have hp : ∀ n : Fin 16, qt (ug n.1) = true := by decide +kernel
  exact hp ⟨n, h⟩
theorem ofNat_pair' (b : UInt8) : UInt8.ofNat (16 * (b.toNat / 16) + b.toNat % 16) = b := by
  have : 16 * (b.toNat / 16) + b.toNat % 16 = b.toNat := Nat.div_add_mod _ _
  rw [this]; simp
theorem une_e1 (c : UInt8) (t : List UInt8) (k : Nat) : une (e1 c ++ t) k = pre [c] (une t (k + (e1 c).length)) := by
  rw [e1_len]
  unfold e1
  have hc := c.toNat_lt
  by_cases h : qt c = true
  · rw [if_pos h, if_pos h]
    obtain ⟨h1, h2⟩ := qt_pl c h
    exact une_plain c t k h2 h1
  · rw [if_neg h, if_neg h]
    show une (37 :: ug (c.toNat / 16) :: ug (c.toNat % 16) :: t) k = _
    rw [une_code _ _ _ _ _ _ (wo_ug _ (by omega)) (wo_ug _ (by omega)), ofNat_pair']
theorem une_esc : ∀ (l : List UInt8) (k : Nat), une (esc l) k = .ok l
  | [], _ => by simp [esc, une]
  | c :: t, k => by rw [esc_cons, une_e1, une_esc t]; rfl
theorem esc_quiet (l : List UInt8) : ∀ c ∈ esc l, qt c = true ∨ c = 37 := by
  intro c hc
  simp only [esc, List.mem_flatMap] at hc
  obtain ⟨b, _, hb⟩ := hc
  have h := b.toNat_lt
  unfold e1 at hb
  split at hb
  · simp only [List.mem_singleton] at hb; subst hb; left; assumption
  · simp only [List.mem_cons, List.not_mem_nil, or_false] at hb
    rcases hb with rfl | rfl | rfl
    · right; rfl
    · left; exact qt_ug _ (by omega)
    · left; exact qt_ug _ (by omega)
theorem esc_same (l : List UInt8) : esc l = l ↔ (esc l).length = l.length := by
  constructor
  · intro h; rw [h]
  · induction l with
    | nil => intro _; rfl
    | cons c t ih =>
      intro h
      rw [esc_cons, List.length_append, List.length_cons] at h
      have h3 := e1_len c
      have h4 : ∀ t : List UInt8, t.length ≤ (esc t).length := by
        intro t
        induction t with
        | nil => simp
        | cons c t ih => rw [esc_cons, List.length_append, List.length_cons, e1_len]; split <;> omega
      have h5 := h4 t
      by_cases hq : qt c = true
      · rw [if_pos hq] at h3
        rw [esc_cons, ih (by omega)]
        unfold e1; rw [if_pos hq]; rfl
      · rw [if_neg hq] at h3; omega
/-- The count of the law. -/
def cn (l : List UInt8) : Nat := (l.map fun c => if qt c then 1 else 3).sum
theorem cn_esc (l : List UInt8) : (esc l).length = cn l := by
  induction l with
  | nil => rfl
  | cons c t ih => rw [esc_cons, List.length_append, e1_len, ih]; simp [cn]
theorem cn_snoc (s : ByteArray) (k : Nat) (h : k < s.size) : cn (s.data.toList.take (k + 1)) = cn (s.data.toList.take k) + if qt s[k] then 1 else 3 := by
  rw [take_snoc s k h]; simp [cn]
theorem cn_le (l : List UInt8) : cn l ≤ 3 * l.length := by rw [← cn_esc]; exact esc_le l
end EscMath
end Go.Proofs.Ytjklnmddoiilgaa
