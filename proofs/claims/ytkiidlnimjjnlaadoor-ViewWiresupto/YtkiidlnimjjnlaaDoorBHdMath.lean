import Derived.WalkKit
namespace Go.Proofs.YtkiidlnimjjnlaaDoor
namespace BerMath

/-- A header as it is read. -/
structure Hd where
  cls : Nat
  made : Bool
  tag : Nat
  len : Nat
  size : Nat
/-- A header, or a fault with its place, or nothing yet. -/
abbrev HR := Except (Option (Nat × Nat)) Hd
abbrev HR.er (code pos : Nat) : HR := .error (some (code, pos))
abbrev HR.miss : HR := .error none
theorem er_inj {a b c q : Nat} (h : HR.er a b = HR.er c q) : a = c ∧ b = q := by
  injection h with h
  injection h with h
  injection h with h1 h2
  exact ⟨h1, h2⟩

/-- Bytes as a number, the highest first. -/
def num (v : Nat) (l : List UInt8) : Nat := l.foldl (fun n b => n * 256 + b.toNat) v
theorem num_snoc (v : Nat) (l : List UInt8) (b : UInt8) : num v (l ++ [b]) = num v l * 256 + b.toNat := by simp [num]
theorem num_lt (l : List UInt8) : num 0 l < 256 ^ l.length := by
  have key : ∀ (l : List UInt8) (v : Nat), num v l < (v + 1) * 256 ^ l.length := by
    intro l
    induction l with
    | nil => intro v; simp [num]
    | cons x l ih =>
      intro v
      have h := ih (v * 256 + x.toNat)
      have hx := x.toNat_lt
      have e : num v (x :: l) = num (v * 256 + x.toNat) l := rfl
      rw [e, List.length_cons, Nat.pow_succ]
      refine Nat.lt_of_lt_of_le h ?_
      have : v * 256 + x.toNat + 1 ≤ (v + 1) * 256 := by omega
      calc (v * 256 + x.toNat + 1) * 256 ^ l.length ≤ ((v + 1) * 256) * 256 ^ l.length := Nat.mul_le_mul_right _ this
        _ = (v + 1) * (256 ^ l.length * 256) := by rw [Nat.mul_assoc, Nat.mul_comm 256]
  have := key l 0
  simpa using this

/-- The header that begins at p, in a stretch that ends at e: rules 2 to 6. -/
def hAt (b : List UInt8) (p e : Nat) : HR :=
  if e ≤ p then HR.miss
  else if (b.getD p 0).toNat % 32 = 31 then HR.er 21 p
  else if e ≤ p + 1 then HR.miss
  else if (b.getD (p + 1) 0).toNat = 128 then HR.er 22 (p + 1)
  else if 132 < (b.getD (p + 1) 0).toNat then HR.er 23 (p + 1)
  else if (b.getD (p + 1) 0).toNat < 128 then .ok ⟨(b.getD p 0).toNat / 64, decide ((b.getD p 0).toNat / 32 % 2 = 1), (b.getD p 0).toNat % 32, (b.getD (p + 1) 0).toNat, 2⟩
  else if e < p + ((b.getD (p + 1) 0).toNat - 126) then HR.miss
  else .ok ⟨(b.getD p 0).toNat / 64, decide ((b.getD p 0).toNat / 32 % 2 = 1), (b.getD p 0).toNat % 32, num 0 ((b.drop (p + 2)).take ((b.getD (p + 1) 0).toNat - 128)), (b.getD (p + 1) 0).toNat - 126⟩
end BerMath
end Go.Proofs.YtkiidlnimjjnlaaDoor
