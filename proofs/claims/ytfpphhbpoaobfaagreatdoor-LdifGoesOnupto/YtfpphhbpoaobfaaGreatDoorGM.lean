import Derived.Test.YtfpphhbpoaobfaaGreatDoorSafe
import Derived.Test.YtfpphhbpoaobfaaGreatDoorBaseMath
import Derived.Test.YtfpphhbpoaobfaaGreatDoorAtPlcM
import Derived.WalkKit
import Derived.Test.YtfpphhbpoaobfaaGreatDoorUbMath
namespace Go.Proofs.YtfpphhbpoaobfaaGreatDoor
namespace Lr
open TextMath (b64 fold)
set_option linter.unusedVariables false

abbrev PR := List UInt8 × List UInt8
abbrev RC := List UInt8 × List PR
def dnB : List UInt8 := [100, 110]
def chB : List UInt8 := [99, 104, 97, 110, 103, 101, 116, 121, 112, 101]
def coB : List UInt8 := [99, 111, 110, 116, 114, 111, 108]
def verB : List UInt8 := [118, 101, 114, 115, 105, 111, 110, 58, 32, 49, 10]
/-- What stands behind a description's colon. -/
def beh (v : List UInt8) : List UInt8 := if v = [] then [] else if plain v then 32 :: v else 58 :: 32 :: b64 v
def lin (d v : List UInt8) : List UInt8 := d ++ [58] ++ beh v ++ [10]
def rec1 (r : RC) : List UInt8 := lin dnB r.1 ++ r.2.flatMap fun p => lin p.1 p.2
def ren (L : List RC) : List UInt8 := verB ++ L.flatMap fun r => 10 :: rec1 r

/-- Of a description: may it stand there; does it tell a change. -/
def okD (d : List UInt8) : Bool := dacc (drun 0 (fold d)) && !(fold d == dnB)
def chg (d : List UInt8) : Bool := (fold d == chB) || (fold d == coB)
theorem chg_ok (d : List UInt8) (h : chg d = true) : okD d = true := by
  unfold chg at h
  unfold okD
  rw [Bool.or_eq_true, beq_iff_eq, beq_iff_eq] at h
  rcases h with h | h
  · rw [h]; decide
  · rw [h]; decide
/-- The fault of a record's pair, of its pairs, of a record: errors by number. -/
def pf (first : Bool) (d : List UInt8) : Nat := if first && chg d then 78 else if okD d then 0 else 75
def pfs : Bool → List PR → Nat
  | _, [] => 0
  | b, p :: t => if pf b p.1 = 0 then pfs false t else pf b p.1
def rf (r : RC) : Nat := if r.2 = [] then 79 else pfs true r.2
def ffs : Nat → List RC → Option (Nat × Nat)
  | _, [] => none
  | i, r :: t => if rf r = 0 then ffs (i + 1) t else some (rf r, i)
theorem pfs_all : ∀ (l : List PR) (b : Bool), (∀ j (h : j < l.length), pf (b && decide (j = 0)) l[j].1 = 0) → pfs b l = 0
  | [], _, _ => rfl
  | p :: t, b, h => by
    have h0 := h 0 (by simp)
    simp only [List.getElem_cons_zero, decide_true, Bool.and_true] at h0
    unfold pfs
    rw [if_pos h0]
    exact pfs_all t false (fun j hj => by
      have := h (j + 1) (by simp; omega)
      simpa using this)
theorem pfs_at : ∀ (l : List PR) (b : Bool) (i : Nat) (hi : i < l.length), (∀ j (h : j < l.length), j < i → pf (b && decide (j = 0)) l[j].1 = 0) → pf (b && decide (i = 0)) l[i].1 ≠ 0 → pfs b l = pf (b && decide (i = 0)) l[i].1
  | [], _, i, hi, _, _ => by simp at hi
  | p :: t, b, 0, _, _, hn => by
    simp only [List.getElem_cons_zero, decide_true, Bool.and_true] at hn ⊢
    unfold pfs
    rw [if_neg hn]
  | p :: t, b, i + 1, hi, h, hn => by
    have h0 := h 0 (by simp) (by omega)
    simp only [List.getElem_cons_zero, decide_true, Bool.and_true] at h0
    have e : decide (i + 1 = 0) = false := by simp
    rw [e, Bool.and_false] at hn ⊢
    simp only [List.getElem_cons_succ] at hn ⊢
    unfold pfs
    rw [if_pos h0]
    have hi' : i < t.length := by simpa using hi
    have := pfs_at t false i hi' (fun j hj hlt => by
      have := h (j + 1) (by simp; omega) (by omega)
      simpa using this) (by simpa using hn)
    simpa using this
theorem ffs_all : ∀ (l : List RC) (k : Nat), (∀ j (h : j < l.length), rf l[j] = 0) → ffs k l = none
  | [], _, _ => rfl
  | r :: t, k, h => by
    unfold ffs
    rw [if_pos (by have := h 0 (by simp); simpa using this)]
    exact ffs_all t _ (fun j hj => by have := h (j + 1) (by simp; omega); simpa using this)
theorem ffs_at : ∀ (l : List RC) (k i : Nat) (hi : i < l.length), (∀ j (h : j < l.length), j < i → rf l[j] = 0) → rf l[i] ≠ 0 → ffs k l = some (rf l[i], k + i)
  | [], _, i, hi, _, _ => by simp at hi
  | r :: t, k, 0, _, _, hn => by
    unfold ffs
    rw [if_neg (by simpa using hn)]
    rfl
  | r :: t, k, i + 1, hi, h, hn => by
    unfold ffs
    rw [if_pos (by have := h 0 (by simp) (by omega); simpa using this)]
    have hi' : i < t.length := by simpa using hi
    have := ffs_at t (k + 1) i hi' (fun j hj hlt => by have := h (j + 1) (by simp; omega) (by omega); simpa using this) (by simpa using hn)
    rw [this]
    simp
    omega
/-- Sizes. -/
def wp (p : PR) : Nat := p.1.length + p.2.length + 3
def wRc (r : RC) : Nat := r.1.length + 4 + (r.2.map wp).sum
def wt (L : List RC) : Nat := (L.map wRc).sum
theorem beh_len (v : List UInt8) : (beh v).length ≤ 2 * v.length + 5 := by
  unfold beh
  split
  · simp
  · split
    · simp; omega
    · simp only [List.length_cons, TextMath.b64_len]; omega
theorem lin_len (d v : List UInt8) : (lin d v).length ≤ d.length + 2 * v.length + 7 := by
  unfold lin
  have := beh_len v
  simp only [List.length_append, List.length_cons, List.length_nil]
  omega
theorem lins_len (l : List PR) : (l.flatMap fun p => lin p.1 p.2).length ≤ 3 * (l.map wp).sum := by
  induction l with
  | nil => simp
  | cons p t ih =>
    have := lin_len p.1 p.2
    simp only [List.flatMap_cons, List.length_append, List.map_cons, List.sum_cons, wp] at ih ⊢
    omega
theorem rec_len (r : RC) : (rec1 r).length + 1 ≤ 3 * wRc r := by
  unfold rec1 wRc
  have h1 := lin_len dnB r.1
  have h2 := lins_len r.2
  have h3 : dnB.length = 2 := rfl
  rw [List.length_append]
  omega
theorem recs_len (L : List RC) : (L.flatMap fun r => 10 :: rec1 r).length ≤ 3 * wt L := by
  unfold wt
  induction L with
  | nil => simp
  | cons r t ih =>
    have := rec_len r
    simp only [List.flatMap_cons, List.length_append, List.length_cons, List.map_cons, List.sum_cons] at ih ⊢
    omega
theorem ren_len (L : List RC) : (ren L).length ≤ 3 * wt L + 11 := by
  unfold ren
  have := recs_len L
  have h3 : verB.length = 11 := rfl
  rw [List.length_append]
  omega
theorem wt_take (L : List RC) (i : Nat) : wt (L.take i) ≤ wt L := by
  unfold wt
  have e : (L.map wRc).sum = ((L.take i).map wRc).sum + ((L.drop i).map wRc).sum := by rw [← List.sum_append, ← List.map_append, List.take_append_drop]
  omega
theorem wr_le (L : List RC) (r : RC) (h : r ∈ L) : wRc r ≤ wt L := by
  unfold wt
  induction L with
  | nil => simp at h
  | cons y t ih =>
    simp only [List.map_cons, List.sum_cons]
    rcases List.mem_cons.1 h with e | e
    · rw [e]; omega
    · have := ih e; omega
theorem wp_le (r : RC) (p : PR) (h : p ∈ r.2) : wp p ≤ wRc r := by
  unfold wRc
  have : wp p ≤ (r.2.map wp).sum := by
    generalize r.2 = l at *
    induction l with
    | nil => simp at h
    | cons y t ih =>
      simp only [List.map_cons, List.sum_cons]
      rcases List.mem_cons.1 h with e | e
      · rw [e]; omega
      · have := ih e; omega
  omega
theorem wp_len (r : RC) : r.2.length ≤ wRc r := by
  unfold wRc
  have : r.2.length ≤ (r.2.map wp).sum := by
    generalize r.2 = l
    induction l with
    | nil => simp
    | cons y t ih => simp only [List.map_cons, List.sum_cons, List.length_cons, wp] at ih ⊢; omega
  omega
theorem wt_len (L : List RC) : L.length ≤ wt L := by
  unfold wt
  induction L with
  | nil => simp
  | cons y t ih => simp only [List.map_cons, List.sum_cons, List.length_cons, wRc] at ih ⊢; omega
theorem ren_snoc (L : List RC) (i : Nat) (h : i < L.length) : ren (L.take (i + 1)) = ren (L.take i) ++ (10 :: rec1 L[i]) := by
  unfold ren
  rw [List.take_succ_eq_append_getElem h, List.flatMap_append]
  simp
theorem lins_snoc (l : List PR) (i : Nat) (h : i < l.length) : ((l.take (i + 1)).flatMap fun p => lin p.1 p.2) = ((l.take i).flatMap fun p => lin p.1 p.2) ++ lin l[i].1 l[i].2 := by
  rw [List.take_succ_eq_append_getElem h, List.flatMap_append]
  simp
end Lr
end Go.Proofs.YtfpphhbpoaobfaaGreatDoor

namespace Go.Proofs.YtfpphhbpoaobfaaGreatDoor.LdMath

theorem snocInd {α : Type} {motive : List α → Prop} (nil : motive []) (append_singleton : ∀ (pre : List α) (x : α), motive pre → motive (pre ++ [x])) (l : List α) : motive l := by
  have key : ∀ r : List α, motive r.reverse := by
    intro r
    induction r with
    | nil => exact nil
    | cons x r ih => rw [List.reverse_cons]; exact append_singleton _ _ ih
  have := key l.reverse
  rwa [List.reverse_reverse] at this

/-- A text without the return at its end. -/
def trimCR (l : List UInt8) : List UInt8 := if l.getLast? = some 13 then l.dropLast else l
/-- Where the physical line begins in which the byte i stands. -/
def lo (b : List UInt8) : Nat → Nat
  | 0 => 0
  | i + 1 => if b[i]? = some 10 then i + 1 else lo b i
/-- The physical lines that have ended ahead of i. -/
def pl (b : List UInt8) : Nat → List (Nat × List UInt8)
  | 0 => []
  | i + 1 => if b[i]? = some 10 then pl b i ++ [((pl b i).length + 1, trimCR ((b.take i).drop (lo b i)))] else pl b i
/-- What stands behind the last line end, if anything stands there. -/
def rst (b : List UInt8) : List (Nat × List UInt8) := if lo b b.length < b.length then [((pl b b.length).length + 1, b.drop (lo b b.length))] else []
def phys (b : List UInt8) : List (Nat × List UInt8) := pl b b.length ++ rst b

theorem lo_le (b : List UInt8) : ∀ i, lo b i ≤ i
  | 0 => Nat.le_refl _
  | i + 1 => by unfold lo; split <;> have := lo_le b i <;> omega
theorem lo_lf (b : List UInt8) (i : Nat) (h : b[i]? = some 10) : lo b (i + 1) = i + 1 := by simp [lo, h]
theorem lo_no (b : List UInt8) (i : Nat) (h : ¬ b[i]? = some 10) : lo b (i + 1) = lo b i := by simp [lo, h]
theorem pl_lf (b : List UInt8) (i : Nat) (h : b[i]? = some 10) : pl b (i + 1) = pl b i ++ [((pl b i).length + 1, trimCR ((b.take i).drop (lo b i)))] := by simp [pl, h]
theorem pl_no (b : List UInt8) (i : Nat) (h : ¬ b[i]? = some 10) : pl b (i + 1) = pl b i := by simp [pl, h]
theorem skip (b : List UInt8) (i : Nat) : ∀ d, (∀ k, k < d → ¬ b[i + k]? = some 10) → lo b (i + d) = lo b i ∧ pl b (i + d) = pl b i
  | 0, _ => ⟨rfl, rfl⟩
  | d + 1, h => by
    obtain ⟨h1, h2⟩ := skip b i d (fun k hk => h k (by omega))
    have h3 := h d (by omega)
    exact ⟨(lo_no b (i + d) h3).trans h1, (pl_no b (i + d) h3).trans h2⟩
theorem pl_len (b : List UInt8) : ∀ i, (pl b i).length ≤ i
  | 0 => Nat.le_refl _
  | i + 1 => by
    have := pl_len b i
    unfold pl
    split
    · simp; omega
    · omega
theorem pl_pre (b : List UInt8) (i : Nat) : ∀ d, pl b i <+: pl b (i + d)
  | 0 => List.prefix_refl _
  | d + 1 => by
    refine (pl_pre b i d).trans ?_
    show pl b (i + d) <+: pl b (i + d + 1)
    rw [pl]
    split
    · exact List.prefix_append _ _
    · exact List.prefix_refl _
theorem pl_phys (b : List UInt8) (i : Nat) (h : i ≤ b.length) : pl b i <+: phys b := by
  have := pl_pre b i (b.length - i)
  rw [show i + (b.length - i) = b.length from by omega] at this
  exact this.trans (List.prefix_append _ _)
theorem phys_len (b : List UInt8) : (phys b).length ≤ b.length + 1 := by
  unfold phys rst
  have := pl_len b b.length
  split <;> simp <;> omega

/-- A line that goes on. -/
def goes (x : List UInt8) : Bool := x.head? == some 32
/-- The fault of a line behind another. -/
def flt (ahead x : List UInt8) : Option Nat := if x.contains 13 then some 70 else if goes x && ahead.isEmpty then some 71 else none
theorem num_snoc (l : List (Nat × List UInt8)) (x : List UInt8) (h : ∀ i (hi : i < l.length), l[i].1 = i + 1) : ∀ i (hi : i < (l ++ [(l.length + 1, x)]).length), (l ++ [(l.length + 1, x)])[i].1 = i + 1 := by
  intro i hi
  by_cases hl : i < l.length
  · rw [List.getElem_append_left hl]
    exact h i hl
  · have e : i = l.length := by simp at hi; omega
    subst e
    simp
theorem pl_num (b : List UInt8) : ∀ k i (hi : i < (pl b k).length), (pl b k)[i].1 = i + 1
  | 0 => fun i hi => by simp [pl] at hi
  | k + 1 => by
    have ih := pl_num b k
    by_cases hc : b[k]? = some 10
    · rw [pl_lf b k hc]
      exact num_snoc _ _ ih
    · rw [pl_no b k hc]
      exact ih
/-- Physical lines are numbered from 1. -/
theorem phys_num (b : List UInt8) : ∀ i (hi : i < (phys b).length), (phys b)[i].1 = i + 1 := by
  by_cases h : lo b b.length < b.length
  · have e : phys b = pl b b.length ++ [((pl b b.length).length + 1, b.drop (lo b b.length))] := by unfold phys rst; rw [if_pos h]
    rw [e]
    exact num_snoc _ _ (pl_num b b.length)
  · have e : phys b = pl b b.length := by unfold phys rst; rw [if_neg h, List.append_nil]
    rw [e]
    exact pl_num b b.length

/-- The first fault of lines, the one ahead of them at hand. -/
def ferr (ahead : List UInt8) : List (Nat × List UInt8) → Option (Nat × Nat)
  | [] => none
  | x :: xs => match flt ahead x.2 with | some e => some (e, x.1) | none => ferr x.2 xs
def lastA (a : List UInt8) (l : List (Nat × List UInt8)) : List UInt8 := (l.getLast?.map (·.2)).getD a
theorem lastA_snoc (a : List UInt8) (l : List (Nat × List UInt8)) (x : Nat × List UInt8) : lastA a (l ++ [x]) = x.2 := by simp [lastA]
theorem lastA_cons (a : List UInt8) (y : Nat × List UInt8) (l : List (Nat × List UInt8)) : lastA a (y :: l) = lastA y.2 l := by
  unfold lastA
  cases l with
  | nil => rfl
  | cons z l => rw [List.getLast?_cons_cons, List.getLast?_cons]; rfl
theorem ferr_app (xs : List (Nat × List UInt8)) : ∀ (pre : List (Nat × List UInt8)) (a : List UInt8), ferr a pre = none → ferr a (pre ++ xs) = ferr (lastA a pre) xs
  | [], a, _ => by simp [lastA]
  | y :: pre, a, h => by
    unfold ferr at h
    cases hf : flt a y.2 with
    | some e => rw [hf] at h; cases h
    | none =>
      rw [hf] at h
      have ih := ferr_app xs pre y.2 h
      show (match flt a y.2 with | some e => _ | none => ferr y.2 (pre ++ xs)) = _
      rw [hf, lastA_cons]
      exact ih
theorem ferr_ok (pre : List (Nat × List UInt8)) (x : Nat × List UInt8) (h : ferr [] pre = none) (hx : flt (lastA [] pre) x.2 = none) : ferr [] (pre ++ [x]) = none := by
  rw [ferr_app [x] pre [] h]
  simp [ferr, hx]
theorem ferr_bad (pre post : List (Nat × List UInt8)) (x : Nat × List UInt8) (e : Nat) (h : ferr [] pre = none) (hx : flt (lastA [] pre) x.2 = some e) : ferr [] (pre ++ [x] ++ post) = some (e, x.1) := by
  rw [List.append_assoc, ferr_app _ pre [] h]
  simp [ferr, hx]
theorem ferr_front (x : Nat × List UInt8) : ∀ (pre : List (Nat × List UInt8)) (a : List UInt8), ferr a (pre ++ [x]) = none → ferr a pre = none ∧ flt (lastA a pre) x.2 = none := by
  intro pre
  induction pre with
  | nil =>
    intro a h
    refine ⟨rfl, ?_⟩
    unfold ferr at h
    simp only [List.nil_append] at h
    cases hf : flt a x.2 with
    | none => simpa [lastA] using hf
    | some e => rw [hf] at h; cases h
  | cons y pre ih =>
    intro a h
    have h' : (match flt a y.2 with | some e => some (e, y.1) | none => ferr y.2 (pre ++ [x])) = none := h
    cases hf : flt a y.2 with
    | some e => rw [hf] at h'; cases h'
    | none =>
      rw [hf] at h'
      obtain ⟨h1, h2⟩ := ih y.2 h'
      refine ⟨?_, ?_⟩
      · show (match flt a y.2 with | some e => _ | none => ferr y.2 pre) = none
        rw [hf]
        exact h1
      · rw [lastA_cons]
        exact h2
theorem flt_ok {a x : List UInt8} (h : flt a x = none) : x.contains 13 = false ∧ (goes x && a.isEmpty) = false := by
  unfold flt at h
  split at h
  · cases h
  · rename_i h1
    split at h
    · cases h
    · rename_i h2
      exact ⟨by simpa using h1, by simpa using h2⟩

/-- What is behind the last line goes behind its text. -/
def addLast (L : List (Nat × List UInt8)) (r : List UInt8) : List (Nat × List UInt8) := match L.getLast? with | none => [] | some p => L.dropLast ++ [(p.1, p.2 ++ r)]
theorem addLast_snoc (L : List (Nat × List UInt8)) (n : Nat) (t r : List UInt8) : addLast (L ++ [(n, t)]) r = L ++ [(n, t ++ r)] := by simp [addLast]
def stepJ (L : List (Nat × List UInt8)) (x : Nat × List UInt8) : List (Nat × List UInt8) := if goes x.2 then addLast L x.2.tail else L ++ [x]
/-- The logical lines. -/
def joinS (l : List (Nat × List UInt8)) : List (Nat × List UInt8) := l.foldl stepJ []
theorem joinS_nil : joinS [] = [] := rfl
theorem joinS_on (l : List (Nat × List UInt8)) (x : Nat × List UInt8) (h : goes x.2 = true) : joinS (l ++ [x]) = addLast (joinS l) x.2.tail := by
  unfold joinS
  rw [List.foldl_append]
  simp [stepJ, h]
theorem joinS_new (l : List (Nat × List UInt8)) (x : Nat × List UInt8) (h : goes x.2 = false) : joinS (l ++ [x]) = joinS l ++ [x] := by
  unfold joinS
  rw [List.foldl_append]
  simp [stepJ, h]
theorem joinS_ne : ∀ (l : List (Nat × List UInt8)), ferr [] l = none → l ≠ [] → joinS l ≠ [] := by
  intro l
  induction l using snocInd with
  | nil => intro _ h; exact absurd rfl h
  | append_singleton pre x ih =>
    intro h _
    obtain ⟨h1, h2⟩ := ferr_front x pre [] h
    cases hg : goes x.2 with
    | false => rw [joinS_new pre x hg]; simp
    | true =>
      rw [joinS_on pre x hg]
      have hn : pre ≠ [] := by
        rintro rfl
        have := (flt_ok h2).2
        simp [hg, lastA] at this
      obtain ⟨L, p, hL⟩ : ∃ L p, joinS pre = L ++ [p] := ⟨(joinS pre).dropLast, (joinS pre).getLast (ih h1 hn), (List.dropLast_concat_getLast _).symm⟩
      rw [hL]
      simp [addLast]
theorem joinS_last (l : List (Nat × List UInt8)) (h : ferr [] l = none) (hn : l ≠ []) : ∃ L n t, joinS l = L ++ [(n, t)] :=
  ⟨(joinS l).dropLast, ((joinS l).getLast (joinS_ne l h hn)).1, ((joinS l).getLast (joinS_ne l h hn)).2, (List.dropLast_concat_getLast _).symm⟩
/-- A line that goes on has one ahead of it to go on. -/
theorem joinS_goes (pre : List (Nat × List UInt8)) (x : List UInt8) (h : ferr [] pre = none) (hx : flt (lastA [] pre) x = none) (hg : goes x = true) : ∃ L n t, joinS pre = L ++ [(n, t)] := by
  refine joinS_last pre h ?_
  rintro rfl
  have := (flt_ok hx).2
  simp [hg, lastA] at this
/-- All bytes of lines. -/
def ltot (l : List (Nat × List UInt8)) : Nat := (l.map (fun p => p.2.length)).sum
theorem ltot_snoc (l : List (Nat × List UInt8)) (x : Nat × List UInt8) : ltot (l ++ [x]) = ltot l + x.2.length := by simp [ltot]
theorem trimCR_len (l : List UInt8) : (trimCR l).length ≤ l.length := by unfold trimCR; split <;> simp
theorem pl_tot (b : List UInt8) : ∀ i, i ≤ b.length → ltot (pl b i) ≤ lo b i
  | 0, _ => Nat.le_refl _
  | i + 1, h => by
    have ih := pl_tot b i (by omega)
    by_cases hc : b[i]? = some 10
    · rw [pl_lf b i hc, lo_lf b i hc, ltot_snoc]
      have h1 := trimCR_len ((b.take i).drop (lo b i))
      rw [List.length_drop, List.length_take] at h1
      have h2 := lo_le b i
      simp only
      omega
    · rw [pl_no b i hc, lo_no b i hc]
      exact ih
theorem phys_tot (b : List UInt8) : ltot (phys b) ≤ b.length := by
  have h1 := pl_tot b b.length (Nat.le_refl _)
  have h2 := lo_le b b.length
  unfold phys rst
  split
  · rw [ltot_snoc]; simp only [List.length_drop]; omega
  · simp; omega
theorem ltot_pre {l k : List (Nat × List UInt8)} (h : l <+: k) : ltot l ≤ ltot k := by
  obtain ⟨m, rfl⟩ := h
  simp [ltot]
theorem joinS_sizes : ∀ (l : List (Nat × List UInt8)), (joinS l).length ≤ l.length ∧ ∀ p ∈ joinS l, p.2.length ≤ ltot l := by
  intro l
  induction l using snocInd with
  | nil => simp [joinS_nil]
  | append_singleton pre x ih =>
    obtain ⟨h1, h2⟩ := ih
    cases hg : goes x.2 with
    | false =>
      rw [joinS_new pre x hg]
      refine ⟨by simp; omega, ?_⟩
      intro p hp
      rw [ltot_snoc]
      rcases List.mem_append.1 hp with hp | hp
      · have := h2 p hp
        omega
      · simp at hp
        subst hp
        omega
    | true =>
      rw [joinS_on pre x hg]
      unfold addLast
      cases hl : (joinS pre).getLast? with
      | none => simp
      | some q =>
        have hq : q ∈ joinS pre := List.mem_of_getLast? hl
        have hne : joinS pre ≠ [] := by rintro e; rw [e] at hl; cases hl
        have hpos : 0 < (joinS pre).length := List.length_pos_iff.2 hne
        refine ⟨by simp; omega, ?_⟩
        intro p hp
        rw [ltot_snoc]
        have ht : x.2.tail.length ≤ x.2.length := by simp
        rcases List.mem_append.1 hp with hp | hp
        · have := h2 p (List.dropLast_subset _ hp)
          omega
        · simp at hp
          subst hp
          have := h2 q hq
          simp only [List.length_append]
          omega
end Go.Proofs.YtfpphhbpoaobfaaGreatDoor.LdMath

namespace Go.Proofs.YtfpphhbpoaobfaaGreatDoor
namespace Rd
open TextMath (b64 fold unb)
open LdMath
open Lr (PR RC pf chg okD dnB)
set_option linter.unusedVariables false

/-- What stands ahead of the first colon, and behind it; a line without one has no word. -/
def wordOf (t : List UInt8) : List UInt8 := if t.contains 58 then t.takeWhile (fun c => c != 58) else []
def restOf (t : List UInt8) : List UInt8 := (t.dropWhile (fun c => c != 58)).tail
def verW : List UInt8 := [118, 101, 114, 115, 105, 111, 110]
/-- The fault of a word, by the kind of its line. -/
def wfl (k : Nat) (w : List UInt8) : Nat :=
  if k = 0 then (if fold w = verW then 0 else 72) else if k ≤ 2 then (if fold w = dnB then 0 else 73) else pf (decide (k = 3)) w
def skipS (l : List UInt8) : List UInt8 := l.dropWhile (fun c => c == 32)
/-- The value of a value's text, and its fault. -/
def valOf (t : List UInt8) : List UInt8 × Nat :=
  if t.head? = some 60 then ([], 77)
  else if t.head? = some 58 then (match unb (skipS t.tail) 0 with | .ok v => (v, 0) | .error _ => ([], 76))
  else if safe (skipS t) then (skipS t, 0) else ([], 76)
/-- How far a reader is: the kind of the line that comes; line, name and pairs of the record at hand. -/
abbrev St := Nat × Nat × List UInt8 × List PR
abbrev Rc := Nat × List UInt8 × List PR
/-- A line that is neither blank nor a comment. -/
def takeF (st : St) (t : List UInt8) : Nat :=
  if wfl st.1 (wordOf t) ≠ 0 then wfl st.1 (wordOf t)
  else if st.1 = 0 then (if skipS (restOf t) = [49] then 0 else 72)
  else if st.1 ≤ 2 then (if (valOf (restOf t)).2 = 0 then 0 else 74)
  else (valOf (restOf t)).2
def takeS (st : St) (n : Nat) (t : List UInt8) : St :=
  if st.1 = 0 then (1, st.2)
  else if st.1 ≤ 2 then (3, n, (valOf (restOf t)).1, [])
  else (4, st.2.1, st.2.2.1, st.2.2.2 ++ [(wordOf t, (valOf (restOf t)).1)])
/-- What is told at the end. -/
def fin (e : Nat) (st : St) : List Rc × Nat × Nat :=
  if st.1 = 0 then ([], 72, e) else if st.1 = 1 then ([], 73, e) else if st.1 = 3 then ([], 79, st.2.1) else if st.1 = 4 then ([st.2], 0, 0) else ([], 0, 0)
/-- The records that lines tell, and the fault behind them. -/
def rdL (e : Nat) : St → List (Nat × List UInt8) → List Rc × Nat × Nat
  | st, [] => fin e st
  | st, (n, t) :: ls =>
    if t.head? = some 35 then rdL e st ls
    else if t ≠ [] then (if takeF st t = 0 then rdL e (takeS st n t) ls else ([], takeF st t, n))
    else if st.1 = 3 then fin e st
    else if st.1 = 4 then (st.2 :: (rdL e (2, st.2) ls).1, (rdL e (2, st.2) ls).2)
    else rdL e st ls
def st0 : St := (0, 0, [], [])
/-- What the text's reading gives: the records ahead of the fault, and that. -/
def rdT (b : List UInt8) : List Rc × Nat × Nat :=
  match ferr [] (phys b) with
  | some (e, n) => ([], e, n)
  | none => rdL ((phys b).length + 1) st0 (joinS (phys b))
/-- What Load answers. -/
def ldR (b : List UInt8) : List Rc := if (rdT b).2.1 = 0 then (rdT b).1 else []
end Rd
end Go.Proofs.YtfpphhbpoaobfaaGreatDoor
