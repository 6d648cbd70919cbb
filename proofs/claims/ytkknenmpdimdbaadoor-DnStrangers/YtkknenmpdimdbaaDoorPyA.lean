import Derived.Test.YtkknenmpdimdbaaDoorKeN
namespace Go.Proofs.YtkknenmpdimdbaaDoor
namespace TextMath

/-- The digit of a number below 16. -/
def dg (n : Nat) : UInt8 := UInt8.ofNat (if n < 10 then 48 + n else 87 + n)
def hex (l : List UInt8) : List UInt8 := l.flatMap fun b => [dg (b.toNat / 16), dg (b.toNat % 16)]

/-- The worth of a digit. -/
def wo (b : UInt8) : Option Nat :=
  if 48 ≤ b.toNat ∧ b.toNat ≤ 57 then some (b.toNat - 48)
  else if 97 ≤ b.toNat ∧ b.toNat ≤ 102 then some (b.toNat - 87)
  else if 65 ≤ b.toNat ∧ b.toNat ≤ 70 then some (b.toNat - 55) else none

theorem dg_toNat (n : Nat) (h : n < 16) : (dg n).toNat = if n < 10 then 48 + n else 87 + n := by
  unfold dg; rw [UInt8.toNat_ofNat']; split <;> omega
theorem wo_dg (n : Nat) (h : n < 16) : wo (dg n) = some n := by
  have := dg_toNat n h
  unfold wo; rw [this]
  by_cases h' : n < 10
  · rw [if_pos h', if_pos (by omega)]; congr 1; omega
  · rw [if_neg h', if_neg (by omega), if_pos (by omega)]; congr 1; omega
theorem wo_lt (b : UInt8) (n : Nat) (h : wo b = some n) : n < 16 := by
  unfold wo at h
  repeat' split at h
  all_goals first | (injection h with h; omega) | cases h

/-- Unhex: the bytes, or the place. -/
def unhex : List UInt8 → Nat → Except Nat (List UInt8)
  | [], _ => .ok []
  | [a], k => match wo a with
    | none => .error k
    | some _ => .error (k + 1)
  | a :: b :: t, k => match wo a, wo b with
    | none, _ => .error k
    | some _, none => .error (k + 1)
    | some x, some y => match unhex t (k + 2) with
      | .ok r => .ok (UInt8.ofNat (16 * x + y) :: r)
      | .error p => .error p

def pre (o : List UInt8) : Except Nat (List UInt8) → Except Nat (List UInt8)
  | .ok t => .ok (o ++ t)
  | .error p => .error p
theorem pre_nil (r : Except Nat (List UInt8)) : pre [] r = r := by cases r <;> rfl
theorem pre_pre (o p : List UInt8) (r : Except Nat (List UInt8)) : pre o (pre p r) = pre (o ++ p) r := by cases r <;> simp [pre]
theorem unhex_bad (a : UInt8) (t : List UInt8) (k : Nat) (h : wo a = none) : unhex (a :: t) k = .error k := by
  cases t with
  | nil => simp [unhex, h]
  | cons b r => simp [unhex, h]
theorem unhex_odd (a : UInt8) (k : Nat) (x : Nat) (h : wo a = some x) : unhex [a] k = .error (k + 1) := by simp [unhex, h]
theorem unhex_bad2 (a b : UInt8) (t : List UInt8) (k x : Nat) (h : wo a = some x) (hb : wo b = none) : unhex (a :: b :: t) k = .error (k + 1) := by simp [unhex, h, hb]
theorem unhex_pair (a b : UInt8) (t : List UInt8) (k x y : Nat) (h : wo a = some x) (hb : wo b = some y) : unhex (a :: b :: t) k = pre [UInt8.ofNat (16 * x + y)] (unhex t (k + 2)) := by
  simp only [unhex, h, hb]
  cases unhex t (k + 2) <;> rfl
end TextMath
end Go.Proofs.YtkknenmpdimdbaaDoor

namespace Go.Proofs.YtkknenmpdimdbaaDoor
namespace Pa
open TextMath (fold lo normal check wo)
open Ke (tyOk tyC utf PR)
set_option linter.unusedVariables false

/-- May the byte stand in a type? -/
def tb (c : UInt8) : Bool := decide (97 ≤ c.toNat ∧ c.toNat ≤ 122) || decide (65 ≤ c.toNat ∧ c.toNat ≤ 90) || decide (48 ≤ c.toNat ∧ c.toNat ≤ 57) || decide (c.toNat = 45) || decide (c.toNat = 46)
def hd (c : UInt8) : Bool := (wo c).isSome
def hb (a b : UInt8) : UInt8 := UInt8.ofNat (16 * (wo a).getD 0 + (wo b).getD 0)
/-- Bytes that mean themselves behind a backslash. -/
def esL : List UInt8 := [92, 34, 43, 44, 59, 60, 62, 35, 61, 32]
def es (c : UInt8) : Bool := esL.contains c
/-- Bytes that must be escaped. -/
def bar (c : UInt8) : Bool := c == 0 || c == 34 || c == 59 || c == 60 || c == 62
/-- What a backslash with this behind it is: 1 lame, 3 coded, 4 escaped. -/
def kB : List UInt8 → Nat
  | [] => 1
  | a :: r => if es a = true then 4 else match r with
    | [] => 1
    | b :: _ => if (hd a && hd b) = true then 3 else 1
/-- What a value goes on with: 0 it ends, 2 barred, 5 plain, 6 a space. -/
def kO : List UInt8 → Nat
  | [] => 0
  | c :: r => if c = 44 ∨ c = 43 then 0 else if c = 92 then kB r else if bar c = true then 2 else if c = 32 then 6 else 5
abbrev VR := Except (Nat × Nat) (List UInt8 × List UInt8)
/-- A value that is written as it is, or escaped: what is read of it, how much of that counts. -/
def tv : Nat → List UInt8 → List UInt8 → Nat → VR
  | 0, l, a, c => .error (0, l.length)
  | n + 1, l, a, c =>
    if kO l = 0 then .ok (a.take c, l)
    else if kO l = 1 then .error (54, l.length)
    else if kO l = 2 then .error (55, l.length)
    else if kO l = 3 then tv n (l.drop 3) (a ++ [hb (l.getD 1 0) (l.getD 2 0)]) (a.length + 1)
    else if kO l = 4 then tv n (l.drop 2) (a ++ [l.getD 1 0]) (a.length + 1)
    else if kO l = 5 then tv n (l.drop 1) (a ++ [l.getD 0 0]) (a.length + 1)
    else tv n (l.drop 1) (a ++ [l.getD 0 0]) c
/-- A value, the one behind a # told by hx. -/
def pv (hx : List UInt8 → Option VR) (l : List UInt8) : Option VR :=
  (if l.head? = some 35 then hx (l.drop 1) else some (tv (l.length + 1) l [] 0)).map fun v => match v with
    | .error e => .error e
    | .ok x => if utf x.1 = true then .ok x else .error (51, l.length)
def sp (l : List UInt8) : List UInt8 := l.dropWhile (· == 32)
/-- A type and its equals sign. -/
def pt (ahead : List (List UInt8)) (l : List UInt8) : VR :=
  if tyOk (l.takeWhile tb) = false then .error (52, l.length)
  else if tyC (l.takeWhile tb) ∈ ahead then .error (57, l.length)
  else if (sp (l.dropWhile tb)).head? = some 61 then .ok (l.takeWhile tb, sp ((sp (l.dropWhile tb)).drop 1))
  else .error (53, (sp (l.dropWhile tb)).length)
abbrev PRs := Except (Nat × Nat) (List PR × List UInt8)
/-- A part's pairs. -/
def prt (hx : List UInt8 → Option VR) : Nat → Nat → List PR → List UInt8 → Option PRs
  | 0, _, _, _ => none
  | n + 1, num, ps, l =>
    if num = 64 ∨ ps.length = 8 then some (.error (58, (sp l).length))
    else match pt (ps.map fun p => tyC p.1) (sp l) with
      | .error e => some (.error e)
      | .ok x => match pv hx x.2 with
        | none => none
        | some (.error e) => some (.error e)
        | some (.ok y) => if y.2.head? = some 43 then prt hx n num (ps ++ [(x.1, y.1)]) (y.2.drop 1) else some (.ok (ps ++ [(x.1, y.1)], y.2))
abbrev DRs := Except (Nat × Nat) (List (List PR))
/-- All parts. -/
def nmP (hx : List UInt8 → Option VR) : Nat → List (List PR) → List UInt8 → Option DRs
  | 0, _, _ => none
  | n + 1, D, l => match prt hx 9 D.length [] l with
    | none => none
    | some (.error e) => some (.error e)
    | some (.ok x) => if x.2.head? = some 44 then nmP hx n (D ++ [x.1]) (x.2.drop 1) else some (.ok (D ++ [x.1]))
/-- A name's text; an error with what is left of the text at its place. -/
def prs (hx : List UInt8 → Option VR) (s : List UInt8) : Option DRs :=
  if 4096 < s.length then some (.error (50, s.length - 4096))
  else if utf s = false then some (.error (51, s.length - (check s).2))
  else if s = [] then some (.ok [])
  else nmP hx 65 [] s
theorem tv_step (n : Nat) (l a : List UInt8) (c : Nat) : tv (n + 1) l a c = if kO l = 0 then .ok (a.take c, l)
    else if kO l = 1 then .error (54, l.length)
    else if kO l = 2 then .error (55, l.length)
    else if kO l = 3 then tv n (l.drop 3) (a ++ [hb (l.getD 1 0) (l.getD 2 0)]) (a.length + 1)
    else if kO l = 4 then tv n (l.drop 2) (a ++ [l.getD 1 0]) (a.length + 1)
    else if kO l = 5 then tv n (l.drop 1) (a ++ [l.getD 0 0]) (a.length + 1)
    else tv n (l.drop 1) (a ++ [l.getD 0 0]) c := rfl
end Pa
end Go.Proofs.YtkknenmpdimdbaaDoor
