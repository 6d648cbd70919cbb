import Derived.WalkKit
import Derived.Lib.Strings
namespace Go.Proofs.YtkknenmpdimdbaaDoor
namespace DnMath

/-- A way to compare in three answers that is a total order. -/
def Tot {α : Type} (T : α → α → Int) : Prop :=
  (∀ x y, T x y = -1 ∨ T x y = 0 ∨ T x y = 1) ∧ (∀ x y, T x y = 0 ↔ x = y) ∧ (∀ x y, T y x = - T x y) ∧ (∀ x y z, T x y ≤ 0 → T y z ≤ 0 → T x z ≤ 0)
/-- Lists, by the first that differ; else the shorter one ahead. -/
def lx {α : Type} (T : α → α → Int) : List α → List α → Int
  | [], [] => 0
  | [], _ :: _ => -1
  | _ :: _, [] => 1
  | x :: a, y :: b => if T x y = 0 then lx T a b else T x y

variable {α : Type} {T : α → α → Int}
theorem Tot.self (h : Tot T) (x : α) : T x x = 0 := (h.2.1 x x).2 rfl
theorem lx_range (h : Tot T) : ∀ a b, lx T a b = -1 ∨ lx T a b = 0 ∨ lx T a b = 1
  | [], [] => Or.inr (Or.inl rfl)
  | [], _ :: _ => Or.inl rfl
  | _ :: _, [] => Or.inr (Or.inr rfl)
  | x :: a, y :: b => by
    unfold lx
    split
    · exact lx_range h a b
    · exact h.1 x y
theorem lx_eq (h : Tot T) : ∀ a b, lx T a b = 0 ↔ a = b
  | [], [] => by simp [lx]
  | [], _ :: _ => by simp [lx]
  | _ :: _, [] => by simp [lx]
  | x :: a, y :: b => by
    unfold lx
    split
    · rename_i e
      rw [lx_eq h a b, (h.2.1 x y).1 e]
      simp
    · rename_i e
      have hn : ¬ x = y := fun q => e ((h.2.1 x y).2 q)
      constructor
      · intro q; exact absurd q e
      · intro q; injection q with q1 _; exact absurd q1 hn
theorem lx_anti (h : Tot T) : ∀ a b, lx T b a = - lx T a b
  | [], [] => by simp [lx]
  | [], _ :: _ => by simp [lx]
  | _ :: _, [] => by simp [lx]
  | x :: a, y :: b => by
    unfold lx
    have e := h.2.2.1 x y
    by_cases q : T x y = 0
    · rw [if_pos q, if_pos (by omega)]
      exact lx_anti h a b
    · rw [if_neg q, if_neg (by omega)]
      exact e
theorem lx_trans (h : Tot T) : ∀ a b c, lx T a b ≤ 0 → lx T b c ≤ 0 → lx T a c ≤ 0
  | [], _, [] => by simp [lx]
  | [], _, _ :: _ => by simp [lx]
  | _ :: _, [], _ => by simp [lx]
  | _ :: _, _ :: _, [] => by simp [lx]
  | x :: a, y :: b, z :: c => by
    unfold lx
    intro h1 h2
    by_cases q : T x y = 0
    · have e := (h.2.1 x y).1 q
      subst e
      rw [if_pos q] at h1
      by_cases r : T x z = 0
      · rw [if_pos r] at h2 ⊢
        exact lx_trans h a b c h1 h2
      · rw [if_neg r] at h2 ⊢
        exact h2
    · rw [if_neg q] at h1
      by_cases r : T y z = 0
      · have e := (h.2.1 y z).1 r
        subst e
        rw [if_neg q]
        exact h1
      · rw [if_neg r] at h2
        have k := h.2.2.2 x y z h1 h2
        have hn : ¬ T x z = 0 := by
          intro e
          have e' := (h.2.1 x z).1 e
          subst e'
          have := h.2.2.1 x y
          omega
        rw [if_neg hn]
        exact k
theorem lx_tot (h : Tot T) : Tot (lx T) := ⟨lx_range h, lx_eq h, fun a b => lx_anti h a b, lx_trans h⟩
theorem lx_front (h : Tot T) (c : List α) : ∀ a, lx T a (a ++ c) = if c = [] then 0 else -1
  | [] => by cases c <;> simp [lx]
  | x :: a => by
    rw [List.cons_append]
    unfold lx
    rw [if_pos (h.self x)]
    exact lx_front h c a
/-- What stands between two that begin with 'p' begins with 'p'. -/
theorem lx_between (h : Tot T) : ∀ (p a b c : List α), lx T (p ++ a) b ≤ 0 → lx T b (p ++ c) ≤ 0 → p <+: b
  | [], _, b, _ => fun _ _ => ⟨b, rfl⟩
  | x :: p, _, [], _ => by
    intro h1 _
    rw [List.cons_append] at h1
    simp [lx] at h1
  | x :: p, a, y :: b, c => by
    intro h1 h2
    rw [List.cons_append] at h1 h2
    unfold lx at h1 h2
    have e := h.2.2.1 x y
    by_cases q : T x y = 0
    · rw [if_pos q] at h1
      rw [if_pos (by omega)] at h2
      obtain ⟨r, hr⟩ := lx_between h p a b c h1 h2
      have e2 := (h.2.1 x y).1 q
      subst e2
      exact ⟨r, by rw [← hr]; rfl⟩
    · rw [if_neg q] at h1
      rw [if_neg (by omega)] at h2
      exfalso
      have := h.1 x y
      omega

/-- Bytes. -/
def tb (x y : UInt8) : Int := if x < y then -1 else if y < x then 1 else 0
theorem tb_tot : Tot tb := by
  have key : ∀ x y : UInt8, (x < y ↔ x.toNat < y.toNat) := fun x y => UInt8.lt_iff_toNat_lt
  refine ⟨?_, ?_, ?_, ?_⟩
  · intro x y
    unfold tb
    by_cases h1 : x < y
    · rw [if_pos h1]; omega
    · rw [if_neg h1]
      by_cases h2 : y < x
      · rw [if_pos h2]; omega
      · rw [if_neg h2]; omega
  · intro x y
    unfold tb
    simp only [key]
    constructor
    · intro q
      have : x.toNat = y.toNat := by
        by_cases h1 : x.toNat < y.toNat
        · rw [if_pos h1] at q; omega
        · rw [if_neg h1] at q
          by_cases h2 : y.toNat < x.toNat
          · rw [if_pos h2] at q; omega
          · omega
      exact UInt8.toNat_inj.1 this
    · rintro rfl; simp
  · intro x y
    unfold tb
    simp only [key]
    by_cases h1 : x.toNat < y.toNat
    · rw [if_pos h1, if_neg (by omega), if_pos h1]; rfl
    · by_cases h2 : y.toNat < x.toNat
      · rw [if_pos h2, if_neg h1, if_pos h2]
      · rw [if_neg h2, if_neg h1, if_neg h1, if_neg h2]; rfl
  · intro x y z
    unfold tb
    simp only [key]
    intro a b
    by_cases h1 : x.toNat < z.toNat
    · rw [if_pos h1]; omega
    · by_cases h2 : z.toNat < x.toNat
      · exfalso
        by_cases h3 : x.toNat < y.toNat
        · by_cases h4 : y.toNat < z.toNat
          · omega
          · rw [if_neg h4, if_pos (by omega)] at b; omega
        · rw [if_neg h3] at a
          by_cases h4 : y.toNat < x.toNat
          · rw [if_pos h4] at a; omega
          · rw [if_neg (by omega), if_pos (by omega)] at b; omega
      · rw [if_neg h1, if_neg h2]; omega
/-- Texts. -/
def tt : List UInt8 → List UInt8 → Int := lx tb
theorem tt_tot : Tot tt := lx_tot tb_tot
/-- Keys. -/
def ck : List (List UInt8) → List (List UInt8) → Int := lx tt
theorem ck_tot : Tot ck := lx_tot tt_tot
theorem less_tt : ∀ x y : List UInt8, Op.bytesLess x y = decide (tt x y = -1)
  | [], [] => by simp [Op.bytesLess, tt, lx]
  | _ :: _, [] => by simp [Op.bytesLess, tt, lx]
  | [], _ :: _ => by simp [Op.bytesLess, tt, lx]
  | a :: x, b :: y => by
    have ih := less_tt x y
    have e : tt (a :: x) (b :: y) = if tb a b = 0 then tt x y else tb a b := rfl
    rw [e]
    unfold Op.bytesLess
    by_cases q : tb a b = 0
    · have hab := (tb_tot.2.1 a b).1 q
      subst hab
      rw [if_pos q, ← ih]
      simp
    · rw [if_neg q]
      have hab : ¬ a = b := fun z => q ((tb_tot.2.1 a b).2 z)
      unfold tb at q ⊢
      by_cases h1 : a < b
      · simp [h1]
      · by_cases h2 : b < a
        · simp [h1, h2, hab]
        · simp [h1, h2] at q
end DnMath
end Go.Proofs.YtkknenmpdimdbaaDoor
