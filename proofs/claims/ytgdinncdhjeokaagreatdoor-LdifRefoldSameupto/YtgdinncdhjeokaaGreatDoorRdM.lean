import Derived.Test.YtgdinncdhjeokaaGreatDoorFLrLd
import Derived.Test.YtgdinncdhjeokaaGreatDoorUbMath
namespace Go.Proofs.YtgdinncdhjeokaaGreatDoor
namespace Rd
open TextMath (b64 fold unb)
open LdMath
open Lr (PR RC pf chg okD dnB)
set_option linter.unusedVariables false

/-- What stands ahead of the first colon, and behind it; a line without one has no word. -/
def wordOf (t : List UInt8) : List UInt8 := if t.contains 58 then t.takeWhile (fun c => c != 58) else []
def restOf (t : List UInt8) : List UInt8 := (t.dropWhile (fun c => c != 58)).tail
def verW : List UInt8 := [118, 101, 114, 115, 105, 111, 110]
/-- The fault of a word, by the kind of its line. -/
def wfl (k : Nat) (w : List UInt8) : Nat :=
  if k = 0 then (if fold w = verW then 0 else 72) else if k ≤ 2 then (if fold w = dnB then 0 else 73) else pf (decide (k = 3)) w
def skipS (l : List UInt8) : List UInt8 := l.dropWhile (fun c => c == 32)
/-- The value of a value's text, and its fault. -/
def valOf (t : List UInt8) : List UInt8 × Nat :=
  if t.head? = some 60 then ([], 77)
  else if t.head? = some 58 then (match unb (skipS t.tail) 0 with | .ok v => (v, 0) | .error _ => ([], 76))
  else if safe (skipS t) then (skipS t, 0) else ([], 76)
/-- How far a reader is: the kind of the line that comes; line, name and pairs of the record at hand. -/
abbrev St := Nat × Nat × List UInt8 × List PR
abbrev Rc := Nat × List UInt8 × List PR
/-- A line that is neither blank nor a comment. -/
def takeF (st : St) (t : List UInt8) : Nat :=
  if wfl st.1 (wordOf t) ≠ 0 then wfl st.1 (wordOf t)
  else if st.1 = 0 then (if skipS (restOf t) = [49] then 0 else 72)
  else if st.1 ≤ 2 then (if (valOf (restOf t)).2 = 0 then 0 else 74)
  else (valOf (restOf t)).2
def takeS (st : St) (n : Nat) (t : List UInt8) : St :=
  if st.1 = 0 then (1, st.2)
  else if st.1 ≤ 2 then (3, n, (valOf (restOf t)).1, [])
  else (4, st.2.1, st.2.2.1, st.2.2.2 ++ [(wordOf t, (valOf (restOf t)).1)])
/-- What is told at the end. -/
def fin (e : Nat) (st : St) : List Rc × Nat × Nat :=
  if st.1 = 0 then ([], 72, e) else if st.1 = 1 then ([], 73, e) else if st.1 = 3 then ([], 79, st.2.1) else if st.1 = 4 then ([st.2], 0, 0) else ([], 0, 0)
/-- The records that lines tell, and the fault behind them. -/
def rdL (e : Nat) : St → List (Nat × List UInt8) → List Rc × Nat × Nat
  | st, [] => fin e st
  | st, (n, t) :: ls =>
    if t.head? = some 35 then rdL e st ls
    else if t ≠ [] then (if takeF st t = 0 then rdL e (takeS st n t) ls else ([], takeF st t, n))
    else if st.1 = 3 then fin e st
    else if st.1 = 4 then (st.2 :: (rdL e (2, st.2) ls).1, (rdL e (2, st.2) ls).2)
    else rdL e st ls
def st0 : St := (0, 0, [], [])
/-- What the text's reading gives: the records ahead of the fault, and that. -/
def rdT (b : List UInt8) : List Rc × Nat × Nat :=
  match ferr [] (phys b) with
  | some (e, n) => ([], e, n)
  | none => rdL ((phys b).length + 1) st0 (joinS (phys b))
/-- What Load answers. -/
def ldR (b : List UInt8) : List Rc := if (rdT b).2.1 = 0 then (rdT b).1 else []
end Rd
end Go.Proofs.YtgdinncdhjeokaaGreatDoor
