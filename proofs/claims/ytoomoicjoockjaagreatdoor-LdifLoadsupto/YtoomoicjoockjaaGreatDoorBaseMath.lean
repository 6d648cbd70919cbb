namespace Go.Proofs.YtoomoicjoockjaaGreatDoor
namespace TextMath

/-- The character of a number below 64. -/
def al (n : Nat) : UInt8 := UInt8.ofNat (if n < 26 then 65 + n else if n < 52 then 71 + n else if n < 62 then n - 4 else if n = 62 then 43 else 47)
theorem al_toNat (n : Nat) (h : n < 64) : (al n).toNat = if n < 26 then 65 + n else if n < 52 then 71 + n else if n < 62 then n - 4 else if n = 62 then 43 else 47 := by
  unfold al; rw [UInt8.toNat_ofNat']; repeat' split
  all_goals omega

def grp : List UInt8 → List UInt8
  | [x] => [al (x.toNat / 4), al (x.toNat % 4 * 16), 61, 61]
  | [x, y] => [al (x.toNat / 4), al (x.toNat % 4 * 16 + y.toNat / 16), al (y.toNat % 16 * 4), 61]
  | [x, y, z] => [al (x.toNat / 4), al (x.toNat % 4 * 16 + y.toNat / 16), al (y.toNat % 16 * 4 + z.toNat / 64), al (z.toNat % 64)]
  | _ => []
def b64 : List UInt8 → List UInt8
  | [] => []
  | [x] => grp [x]
  | [x, y] => grp [x, y]
  | x :: y :: z :: t => grp [x, y, z] ++ b64 t

theorem b64_step (l : List UInt8) (h : l ≠ []) : b64 l = grp (l.take 3) ++ b64 (l.drop 3) := by
  match l, h with
  | [x], _ => simp [b64]
  | [x, y], _ => simp [b64]
  | x :: y :: z :: t, _ => simp [b64]
theorem grp_len (l : List UInt8) (h : l ≠ []) : (grp (l.take 3)).length = 4 := by
  match l, h with
  | [x], _ => simp [grp]
  | [x, y], _ => simp [grp]
  | x :: y :: z :: t, _ => simp [grp]
theorem b64_len : ∀ l : List UInt8, (b64 l).length = (l.length + 2) / 3 * 4
  | [] => rfl
  | [x] => by simp [b64, grp]
  | [x, y] => by simp [b64, grp]
  | x :: y :: z :: t => by
    have ih := b64_len t
    simp only [b64, List.length_append, List.length_cons, ih, grp, List.length_nil]
    omega
end TextMath
end Go.Proofs.YtoomoicjoockjaaGreatDoor
