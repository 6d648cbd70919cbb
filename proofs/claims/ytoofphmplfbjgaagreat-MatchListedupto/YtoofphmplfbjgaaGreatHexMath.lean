namespace Go.Proofs.YtoofphmplfbjgaaGreat
namespace TextMath

/-- The digit of a number below 16. -/
def dg (n : Nat) : UInt8 := UInt8.ofNat (if n < 10 then 48 + n else 87 + n)
def hex (l : List UInt8) : List UInt8 := l.flatMap fun b => [dg (b.toNat / 16), dg (b.toNat % 16)]

/-- The worth of a digit. -/
def wo (b : UInt8) : Option Nat :=
  if 48 ≤ b.toNat ∧ b.toNat ≤ 57 then some (b.toNat - 48)
  else if 97 ≤ b.toNat ∧ b.toNat ≤ 102 then some (b.toNat - 87)
  else if 65 ≤ b.toNat ∧ b.toNat ≤ 70 then some (b.toNat - 55) else none

theorem dg_toNat (n : Nat) (h : n < 16) : (dg n).toNat = if n < 10 then 48 + n else 87 + n := by
  unfold dg; rw [UInt8.toNat_ofNat']; split <;> omega
theorem wo_dg (n : Nat) (h : n < 16) : wo (dg n) = some n := by
  have := dg_toNat n h
  unfold wo; rw [this]
  by_cases h' : n < 10
  · rw [if_pos h', if_pos (by omega)]; congr 1; omega
  · rw [if_neg h', if_neg (by omega), if_pos (by omega)]; congr 1; omega
theorem wo_lt (b : UInt8) (n : Nat) (h : wo b = some n) : n < 16 := by
  unfold wo at h
  repeat' split at h
  all_goals first | (injection h with h; omega) | cases h

/-- Unhex: the bytes, or the place. -/
def unhex : List UInt8 → Nat → Except Nat (List UInt8)
  | [], _ => .ok []
  | [a], k => match wo a with
    | none => .error k
    | some _ => .error (k + 1)
  | a :: b :: t, k => match wo a, wo b with
    | none, _ => .error k
    | some _, none => .error (k + 1)
    | some x, some y => match unhex t (k + 2) with
      | .ok r => .ok (UInt8.ofNat (16 * x + y) :: r)
      | .error p => .error p

def pre (o : List UInt8) : Except Nat (List UInt8) → Except Nat (List UInt8)
  | .ok t => .ok (o ++ t)
  | .error p => .error p
theorem pre_nil (r : Except Nat (List UInt8)) : pre [] r = r := by cases r <;> rfl
theorem pre_pre (o p : List UInt8) (r : Except Nat (List UInt8)) : pre o (pre p r) = pre (o ++ p) r := by cases r <;> simp [pre]
theorem unhex_bad (a : UInt8) (t : List UInt8) (k : Nat) (h : wo a = none) : unhex (a :: t) k = .error k := by
  cases t with
  | nil => simp [unhex, h]
  | cons b r => simp [unhex, h]
theorem unhex_odd (a : UInt8) (k : Nat) (x : Nat) (h : wo a = some x) : unhex [a] k = .error (k + 1) := by simp [unhex, h]
theorem unhex_bad2 (a b : UInt8) (t : List UInt8) (k x : Nat) (h : wo a = some x) (hb : wo b = none) : unhex (a :: b :: t) k = .error (k + 1) := by simp [unhex, h, hb]
theorem unhex_pair (a b : UInt8) (t : List UInt8) (k x y : Nat) (h : wo a = some x) (hb : wo b = some y) : unhex (a :: b :: t) k = pre [UInt8.ofNat (16 * x + y)] (unhex t (k + 2)) := by
  simp only [unhex, h, hb]
  cases unhex t (k + 2) <;> rfl
end TextMath
end Go.Proofs.YtoofphmplfbjgaaGreat
