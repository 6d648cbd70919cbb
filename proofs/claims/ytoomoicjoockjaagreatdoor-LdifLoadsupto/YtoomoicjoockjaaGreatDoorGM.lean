import Derived.Test.YtoomoicjoockjaaGreatDoorSafe
import Derived.Test.YtoomoicjoockjaaGreatDoorBaseMath
import Derived.Test.YtoomoicjoockjaaGreatDoorAtPlcM
import Derived.WalkKit
import Derived.Test.YtoomoicjoockjaaGreatDoorUbMath
namespace Go.Proofs.YtoomoicjoockjaaGreatDoor
namespace Lr
open TextMath (b64 fold)
set_option linter.unusedVariables false

abbrev PR := List UInt8 × List UInt8
abbrev RC := List UInt8 × List PR
def dnB : List UInt8 := [100, 110]
def chB : List UInt8 := [99, 104, 97, 110, 103, 101, 116, 121, 112, 101]
def coB : List UInt8 := [99, 111, 110, 116, 114, 111, 108]
def verB : List UInt8 := [118, 101, 114, 115, 105, 111, 110, 58, 32, 49, 10]
/-- What stands behind a description's colon. -/
def beh (v : List UInt8) : List UInt8 := if v = [] then [] else if plain v then 32 :: v else 58 :: 32 :: b64 v
def lin (d v : List UInt8) : List UInt8 := d ++ [58] ++ beh v ++ [10]
def rec1 (r : RC) : List UInt8 := lin dnB r.1 ++ r.2.flatMap fun p => lin p.1 p.2
def ren (L : List RC) : List UInt8 := verB ++ L.flatMap fun r => 10 :: rec1 r

/-- Of a description: may it stand there; does it tell a change. -/
def okD (d : List UInt8) : Bool := dacc (drun 0 (fold d)) && !(fold d == dnB)
def chg (d : List UInt8) : Bool := (fold d == chB) || (fold d == coB)
theorem chg_ok (d : List UInt8) (h : chg d = true) : okD d = true := by
  unfold chg at h
  unfold okD
  rw [Bool.or_eq_true, beq_iff_eq, beq_iff_eq] at h
  rcases h with h | h
  · rw [h]; decide
  · rw [h]; decide
/-- The fault of a record's pair, of its pairs, of a record: errors by number. -/
def pf (first : Bool) (d : List UInt8) : Nat := if first && chg d then 78 else if okD d then 0 else 75
def pfs : Bool → List PR → Nat
  | _, [] => 0
  | b, p :: t => if pf b p.1 = 0 then pfs false t else pf b p.1
def rf (r : RC) : Nat := if r.2 = [] then 79 else pfs true r.2
def ffs : Nat → List RC → Option (Nat × Nat)
  | _, [] => none
  | i, r :: t => if rf r = 0 then ffs (i + 1) t else some (rf r, i)
theorem pfs_all : ∀ (l : List PR) (b : Bool), (∀ j (h : j < l.length), pf (b && decide (j = 0)) l[j].1 = 0) → pfs b l = 0
  | [], _, _ => rfl
  | p :: t, b, h => by
    have h0 := h 0 (by simp)
    simp only [List.getElem_cons_zero, decide_true, Bool.and_true] at h0
    unfold pfs
    rw [if_pos h0]
    exact pfs_all t false (fun j hj => by
      have := h (j + 1) (by simp; omega)
      simpa using this)
theorem pfs_at : ∀ (l : List PR) (b : Bool) (i : Nat) (hi : i < l.length), (∀ j (h : j < l.length), j < i → pf (b && decide (j = 0)) l[j].1 = 0) → pf (b && decide (i = 0)) l[i].1 ≠ 0 → pfs b l = pf (b && decide (i = 0)) l[i].1
  | [], _, i, hi, _, _ => by simp at hi
  | p :: t, b, 0, _, _, hn => by
    simp only [List.getElem_cons_zero, decide_true, Bool.and_true] at hn ⊢
    unfold pfs
    rw [if_neg hn]
  | p :: t, b, i + 1, hi, h, hn => by
    have h0 := h 0 (by simp) (by omega)
    simp only [List.getElem_cons_zero, decide_true, Bool.and_true] at h0
    have e : decide (i + 1 = 0) = false := by simp
    rw [e, Bool.and_false] at hn ⊢
    simp only [List.getElem_cons_succ] at hn ⊢
    unfold pfs
    rw [if_pos h0]
    have hi' : i < t.length := by simpa using hi
    have := pfs_at t false i hi' (fun j hj hlt => by
      have := h (j + 1) (by simp; omega) (by omega)
      simpa using this) (by simpa using hn)
    simpa using this
theorem ffs_all : ∀ (l : List RC) (k : Nat), (∀ j (h : j < l.length), rf l[j] = 0) → ffs k l = none
  | [], _, _ => rfl
  | r :: t, k, h => by
    unfold ffs
    rw [if_pos (by have := h 0 (by simp); simpa using this)]
    exact ffs_all t _ (fun j hj => by have := h (j + 1) (by simp; omega); simpa using this)
theorem ffs_at : ∀ (l : List RC) (k i : Nat) (hi : i < l.length), (∀ j (h : j < l.length), j < i → rf l[j] = 0) → rf l[i] ≠ 0 → ffs k l = some (rf l[i], k + i)
  | [], _, i, hi, _, _ => by simp at hi
  | r :: t, k, 0, _, _, hn => by
    unfold ffs
    rw [if_neg (by simpa using hn)]
    rfl
  | r :: t, k, i + 1, hi, h, hn => by
    unfold ffs
    rw [if_pos (by have := h 0 (by simp) (by omega); simpa using this)]
    have hi' : i < t.length := by simpa using hi
    have := ffs_at t (k + 1) i hi' (fun j hj hlt => by have := h (j + 1) (by simp; omega) (by omega); simpa using this) (by simpa using hn)
    rw [this]
    simp
    omega
/-- Sizes. -/
def wp (p : PR) : Nat := p.1.length + p.2.length + 3
def wRc (r : RC) : Nat := r.1.length + 4 + (r.2.map wp).sum
def wt (L : List RC) : Nat := (L.map wRc).sum
theorem beh_len (v : List UInt8) : (beh v).length ≤ 2 * v.length + 5 := by
  unfold beh
  split
  · simp
  · split
    · simp; omega
    · simp only [List.length_cons, TextMath.b64_len]; omega
theorem lin_len (d v : List UInt8) : (lin d v).length ≤ d.length + 2 * v.length + 7 := by
  unfold lin
  have := beh_len v
  simp only [List.length_append, List.length_cons, List.length_nil]
  omega
theorem lins_len (l : List PR) : (l.flatMap fun p => lin p.1 p.2).length ≤ 3 * (l.map wp).sum := by
  induction l with
  | nil => simp
  | cons p t ih =>
    have := lin_len p.1 p.2
    simp only [List.flatMap_cons, List.length_append, List.map_cons, List.sum_cons, wp] at ih ⊢
    omega
theorem rec_len (r : RC) : (rec1 r).length + 1 ≤ 3 * wRc r := by
  unfold rec1 wRc
  have h1 := lin_len dnB r.1
  have h2 := lins_len r.2
  have h3 : dnB.length = 2 := rfl
  rw [List.length_append]
  omega
theorem recs_len (L : List RC) : (L.flatMap fun r => 10 :: rec1 r).length ≤ 3 * wt L := by
  unfold wt
  induction L with
  | nil => simp
  | cons r t ih =>
    have := rec_len r
    simp only [List.flatMap_cons, List.length_append, List.length_cons, List.map_cons, List.sum_cons] at ih ⊢
    omega
theorem ren_len (L : List RC) : (ren L).length ≤ 3 * wt L + 11 := by
  unfold ren
  have := recs_len L
  have h3 : verB.length = 11 := rfl
  rw [List.length_append]
  omega
theorem wt_take (L : List RC) (i : Nat) : wt (L.take i) ≤ wt L := by
  unfold wt
  have e : (L.map wRc).sum = ((L.take i).map wRc).sum + ((L.drop i).map wRc).sum := by rw [← List.sum_append, ← List.map_append, List.take_append_drop]
  omega
theorem wr_le (L : List RC) (r : RC) (h : r ∈ L) : wRc r ≤ wt L := by
  unfold wt
  induction L with
  | nil => simp at h
  | cons y t ih =>
    simp only [List.map_cons, List.sum_cons]
    rcases List.mem_cons.1 h with e | e
    · rw [e]; omega
    · have := ih e; omega
theorem wp_le (r : RC) (p : PR) (h : p ∈ r.2) : wp p ≤ wRc r := by
  unfold wRc
  have : wp p ≤ (r.2.map wp).sum := by
    generalize r.2 = l at *
    induction l with
    | nil => simp at h
    | cons y t ih =>
      simp only [List.map_cons, List.sum_cons]
      rcases List.mem_cons.1 h with e | e
      · rw [e]; omega
      · have := ih e; omega
  omega
theorem wp_len (r : RC) : r.2.length ≤ wRc r := by
  unfold wRc
  have : r.2.length ≤ (r.2.map wp).sum := by
    generalize r.2 = l
    induction l with
    | nil => simp
    | cons y t ih => simp only [List.map_cons, List.sum_cons, List.length_cons, wp] at ih ⊢; omega
  omega
theorem wt_len (L : List RC) : L.length ≤ wt L := by
  unfold wt
  induction L with
  | nil => simp
  | cons y t ih => simp only [List.map_cons, List.sum_cons, List.length_cons, wRc] at ih ⊢; omega
theorem ren_snoc (L : List RC) (i : Nat) (h : i < L.length) : ren (L.take (i + 1)) = ren (L.take i) ++ (10 :: rec1 L[i]) := by
  unfold ren
  rw [List.take_succ_eq_append_getElem h, List.flatMap_append]
  simp
theorem lins_snoc (l : List PR) (i : Nat) (h : i < l.length) : ((l.take (i + 1)).flatMap fun p => lin p.1 p.2) = ((l.take i).flatMap fun p => lin p.1 p.2) ++ lin l[i].1 l[i].2 := by
  rw [List.take_succ_eq_append_getElem h, List.flatMap_append]
  simp
end Lr
end Go.Proofs.YtoomoicjoockjaaGreatDoor

namespace Go.Proofs.YtoomoicjoockjaaGreatDoor.LdMath

theorem snocInd {α : Type} {motive : List α → Prop} (nil : motive []) (append_singleton : ∀ (pre : List α) (x : α), motive pre → motive (pre ++ [x])) (l : List α) : motive l := by
  have key : ∀ r : List α, motive r.reverse := by
    intro r
    induction r with
    | nil => exact nil
    | cons x r ih => rw [List.reverse_cons]; exact append_singleton _ _ ih
  have := key l.reverse
  rwa [List.reverse_reverse] at this

/-- A text without the return at its end. -/
def trimCR (l : List UInt8) : List UInt8 := if l.getLast? = some 13 then l.dropLast else l
/-- Where the physical line begins in which the byte i stands. -/
def lo (b : List UInt8) : Nat → Nat
  | 0 => 0
  | i + 1 => if b[i]? = some 10 then i + 1 else lo b i
/-- The physical lines that have ended ahead of i. -/
def pl (b : List UInt8) : Nat → List (Nat × List UInt8)
  | 0 => []
  | i + 1 => if b[i]? = some 10 then pl b i ++ [((pl b i).length + 1, trimCR ((b.take i).drop (lo b i)))] else pl b i
/-- What stands behind the last line end, if anything stands there. -/
def rst (b : List UInt8) : List (Nat × List UInt8) := if lo b b.length < b.length then [((pl b b.length).length + 1, b.drop (lo b b.length))] else []
def phys (b : List UInt8) : List (Nat × List UInt8) := pl b b.length ++ rst b

theorem lo_le (b : List UInt8) : ∀ i, lo b i ≤ i
  | 0 => Nat.le_refl _
  | i + 1 => by unfold lo; split <;> have := lo_le b i <;> omega
theorem lo_lf (b : List UInt8) (i : Nat) (h : b[i]? = some 10) : lo b (i + 1) = i + 1 := by simp [lo, h]
theorem lo_no (b : List UInt8) (i : Nat) (h : ¬ b[i]? = some 10) : lo b (i + 1) = lo b i := by simp [lo, h]
theorem pl_lf (b : List UInt8) (i : Nat) (h : b[i]? = some 10) : pl b (i + 1) = pl b i ++ [((pl b i).length + 1, trimCR ((b.take i).drop (lo b i)))] := by simp [pl, h]
theorem pl_no (b : List UInt8) (i : Nat) (h : ¬ b[i]? = some 10) : pl b (i + 1) = pl b i := by simp [pl, h]
theorem skip (b : List UInt8) (i : Nat) : ∀ d, (∀ k, k < d → ¬ b[i + k]? = some 10) → lo b (i + d) = lo b i ∧ pl b (i + d) = pl b i
  | 0, _ => ⟨rfl, rfl⟩
  | d + 1, h => by
    obtain ⟨h1, h2⟩ := skip b i d (fun k hk => h k (by omega))
    have h3 := h d (by omega)
    exact ⟨(lo_no b (i + d) h3).trans h1, (pl_no b (i + d) h3).trans h2⟩
theorem pl_len (b : List UInt8) : ∀ i, (pl b i).length ≤ i
  | 0 => Nat.le_refl _
  | i + 1 => by
    have := pl_len b i
    unfold pl
    split
    · simp; omega
    · omega
theorem pl_pre (b : List UInt8) (i : Nat) : ∀ d, pl b i <+: pl b (i + d)
  | 0 => List.prefix_refl _
  | d + 1 => by
    refine (pl_pre b i d).trans ?_
    show pl b (i + d) <+: pl b (i + d + 1)
    rw [pl]
    split
    · exact List.prefix_append _ _
    · exact List.prefix_refl _
theorem pl_phys (b : List UInt8) (i : Nat) (h : i ≤ b.length) : pl b i <+: phys b := by
  have := pl_pre b i (b.length - i)
  rw [show i + (b.length - i) = b.length from by omega] at this
  exact this.trans (List.prefix_append _ _)
theorem phys_len (b : List UInt8) : (phys b).length ≤ b.length + 1 := by
  unfold phys rst
  have := pl_len b b.length
  split <;> simp <;> omega

/-- A line that goes on. -/
def goes (x : List UInt8) : Bool := x.head? == some 32
/-- The fault of a line behind another. -/
def flt (ahead x : List UInt8) : Option Nat := if x.contains 13 then some 70 else if goes x && ahead.isEmpty then some 71 else none
theorem num_snoc (l : List (Nat × List UInt8)) (x : List UInt8) (h : ∀ i (hi : i < l.length), l[i].1 = i + 1) : ∀ i (hi : i < (l ++ [(l.length + 1, x)]).length), (l ++ [(l.length + 1, x)])[i].1 = i + 1 := by
  intro i hi
  by_cases hl : i < l.length
  · rw [List.getElem_append_left hl]
    exact h i hl
  · have e : i = l.length := by simp at hi; omega
    subst e
    simp
theorem pl_num (b : List UInt8) : ∀ k i (hi : i < (pl b k).length), (pl b k)[i].1 = i + 1
  | 0 => fun i hi => by simp [pl] at hi
  | k + 1 => by
    have ih := pl_num b k
    by_cases hc : b[k]? = some 10
    · rw [pl_lf b k hc]
      exact num_snoc _ _ ih
    · rw [pl_no b k hc]
      exact ih
/-- Physical lines are numbered from 1. -/
theorem phys_num (b : List UInt8) : ∀ i (hi : i < (phys b).length), (phys b)[i].1 = i + 1 := by
  by_cases h : lo b b.length < b.length
  · have e : phys b = pl b b.length ++ [((pl b b.length).length + 1, b.drop (lo b b.length))] := by unfold phys rst; rw [if_pos h]
    rw [e]
    exact num_snoc _ _ (pl_num b b.length)
  · have e : phys b = pl b b.length := by unfold phys rst; rw [if_neg h, List.append_nil]
    rw [e]
    exact pl_num b b.length

/-- The first fault of lines, the one ahead of them at hand. -/
def ferr (ahead : List UInt8) : List (Nat × List UInt8) → Option (Nat × Nat)
  | [] => none
  | x :: xs => match flt ahead x.2 with | some e => some (e, x.1) | none => ferr x.2 xs
def lastA (a : List UInt8) (l : List (Nat × List UInt8)) : List UInt8 := (l.getLast?.map (·.2)).getD a
theorem lastA_snoc (a : List UInt8) (l : List (Nat × List UInt8)) (x : Nat × List UInt8) : lastA a (l ++ [x]) = x.2 := by simp [lastA]
theorem lastA_cons (a : List UInt8) (y : Nat × List UInt8) (l : List (Nat × List UInt8)) : lastA a (y :: l) = lastA y.2 l := by
  unfold lastA
  cases l with
  | nil => rfl
  | cons z l => rw [List.getLast?_cons_cons, List.getLast?_cons]; rfl
theorem ferr_app (xs : List (Nat × List UInt8)) : ∀ (pre : List (Nat × List UInt8)) (a : List UInt8), ferr a pre = none → ferr a (pre ++ xs) = ferr (lastA a pre) xs
  | [], a, _ => by simp [lastA]
  | y :: pre, a, h => by
    unfold ferr at h
    cases hf : flt a y.2 with
    | some e => rw [hf] at h; cases h
    | none =>
      rw [hf] at h
      have ih := ferr_app xs pre y.2 h
      show (match flt a y.2 with | some e => _ | none => ferr y.2 (pre ++ xs)) = _
      rw [hf, lastA_cons]
      exact ih
theorem ferr_ok (pre : List (Nat × List UInt8)) (x : Nat × List UInt8) (h : ferr [] pre = none) (hx : flt (lastA [] pre) x.2 = none) : ferr [] (pre ++ [x]) = none := by
  rw [ferr_app [x] pre [] h]
  simp [ferr, hx]
theorem ferr_bad (pre post : List (Nat × List UInt8)) (x : Nat × List UInt8) (e : Nat) (h : ferr [] pre = none) (hx : flt (lastA [] pre) x.2 = some e) : ferr [] (pre ++ [x] ++ post) = some (e, x.1) := by
  rw [List.append_assoc, ferr_app _ pre [] h]
  simp [ferr, hx]
theorem ferr_front (x : Nat × List UInt8) : ∀ (pre : List (Nat × List UInt8)) (a : List UInt8), ferr a (pre ++ [x]) = none → ferr a pre = none ∧ flt (lastA a pre) x.2 = none := by
  intro pre
  induction pre with
  | nil =>
    intro a h
    refine ⟨rfl, ?_⟩
    unfold ferr at h
    simp only [List.nil_append] at h
    cases hf : flt a x.2 with
    | none => simpa [lastA] using hf
    | some e => rw [hf] at h; cases h
  | cons y pre ih =>
    intro a h
    have h' : (match flt a y.2 with | some e => some (e, y.1) | none => ferr y.2 (pre ++ [x])) = none := h
    cases hf : flt a y.2 with
    | some e => rw [hf] at h'; cases h'
    | none =>
      rw [hf] at h'
      obtain ⟨h1, h2⟩ := ih y.2 h'
      refine ⟨?_, ?_⟩
      · show (match flt a y.2 with | some e => _ | none => ferr y.2 pre) = none
        rw [hf]
        exact h1
      · rw [lastA_cons]
        exact h2
theorem flt_ok {a x : List UInt8} (h : flt a x = none) : x.contains 13 = false ∧ (goes x && a.isEmpty) = false := by
  unfold flt at h
  split at h
  · cases h
  · rename_i h1
    split at h
    · cases h
    · rename_i h2
      exact ⟨by simpa using h1, by simpa using h2⟩

/-- What is behind the last line goes behind its text. -/
def addLast (L : List (Nat × List UInt8)) (r : List UInt8) : List (Nat × List UInt8) := match L.getLast? with | none => [] | some p => L.dropLast ++ [(p.1, p.2 ++ r)]
theorem addLast_snoc (L : List (Nat × List UInt8)) (n : Nat) (t r : List UInt8) : addLast (L ++ [(n, t)]) r = L ++ [(n, t ++ r)] := by simp [addLast]
def stepJ (L : List (Nat × List UInt8)) (x : Nat × List UInt8) : List (Nat × List UInt8) := if goes x.2 then addLast L x.2.tail else L ++ [x]
/-- The logical lines. -/
def joinS (l : List (Nat × List UInt8)) : List (Nat × List UInt8) := l.foldl stepJ []
theorem joinS_nil : joinS [] = [] := rfl
theorem joinS_on (l : List (Nat × List UInt8)) (x : Nat × List UInt8) (h : goes x.2 = true) : joinS (l ++ [x]) = addLast (joinS l) x.2.tail := by
  unfold joinS
  rw [List.foldl_append]
  simp [stepJ, h]
theorem joinS_new (l : List (Nat × List UInt8)) (x : Nat × List UInt8) (h : goes x.2 = false) : joinS (l ++ [x]) = joinS l ++ [x] := by
  unfold joinS
  rw [List.foldl_append]
  simp [stepJ, h]
theorem joinS_ne : ∀ (l : List (Nat × List UInt8)), ferr [] l = none → l ≠ [] → joinS l ≠ [] := by
  intro l
  induction l using snocInd with
  | nil => intro _ h; exact absurd rfl h
  | append_singleton pre x ih =>
    intro h _
    obtain ⟨h1, h2⟩ := ferr_front x pre [] h
    cases hg : goes x.2 with
    | false => rw [joinS_new pre x hg]; simp
    | true =>
      rw [joinS_on pre x hg]
      have hn : pre ≠ [] := by
        rintro rfl
        have := (flt_ok h2).2
        simp [hg, lastA] at this
      obtain ⟨L, p, hL⟩ : ∃ L p, joinS pre = L ++ [p] := ⟨(joinS pre).dropLast, (joinS pre).getLast (ih h1 hn), (List.dropLast_concat_getLast _).symm⟩
      rw [hL]
      simp [addLast]
theorem joinS_last (l : List (Nat × List UInt8)) (h : ferr [] l = none) (hn : l ≠ []) : ∃ L n t, joinS l = L ++ [(n, t)] :=
  ⟨(joinS l).dropLast, ((joinS l).getLast (joinS_ne l h hn)).1, ((joinS l).getLast (joinS_ne l h hn)).2, (List.dropLast_concat_getLast _).symm⟩
/-- A line that goes on has one ahead of it to go on. -/
theorem joinS_goes (pre : List (Nat × List UInt8)) (x : List UInt8) (h : ferr [] pre = none) (hx : flt (lastA [] pre) x = none) (hg : goes x = true) : ∃ L n t, joinS pre = L ++ [(n, t)] := by
  refine joinS_last pre h ?_
  rintro rfl
  have := (flt_ok hx).2
  simp [hg, lastA] at this
/-- All bytes of lines. -/
def ltot (l : List (Nat × List UInt8)) : Nat := (l.map (fun p => p.2.length)).sum
theorem ltot_snoc (l : List (Nat × List UInt8)) (x : Nat × List UInt8) : ltot (l ++ [x]) = ltot l + x.2.length := by simp [ltot]
theorem trimCR_len (l : List UInt8) : (trimCR l).length ≤ l.length := by unfold trimCR; split <;> simp
theorem pl_tot (b : List UInt8) : ∀ i, i ≤ b.length → ltot (pl b i) ≤ lo b i
  | 0, _ => Nat.le_refl _
  | i + 1, h => by
    have ih := pl_tot b i (by omega)
    by_cases hc : b[i]? = some 10
    · rw [pl_lf b i hc, lo_lf b i hc, ltot_snoc]
      have h1 := trimCR_len ((b.take i).drop (lo b i))
      rw [List.length_drop, List.length_take] at h1
      have h2 := lo_le b i
      simp only
      omega
    · rw [pl_no b i hc, lo_no b i hc]
      exact ih
theorem phys_tot (b : List UInt8) : ltot (phys b) ≤ b.length := by
  have h1 := pl_tot b b.length (Nat.le_refl _)
  have h2 := lo_le b b.length
  unfold phys rst
  split
  · rw [ltot_snoc]; simp only [List.length_drop]; omega
  · simp; omega
theorem ltot_pre {l k : List (Nat × List UInt8)} (h : l <+: k) : ltot l ≤ ltot k := by
  obtain ⟨m, rfl⟩ := h
  simp [ltot]
theorem joinS_sizes : ∀ (l : List (Nat × List UInt8)), (joinS l).length ≤ l.length ∧ ∀ p ∈ joinS l, p.2.length ≤ ltot l := by
  intro l
  induction l using snocInd with
  | nil => simp [joinS_nil]
  | append_singleton pre x ih =>
    obtain ⟨h1, h2⟩ := ih
    cases hg : goes x.2 with
    | false =>
      rw [joinS_new pre x hg]
      refine ⟨by simp; omega, ?_⟩
      intro p hp
      rw [ltot_snoc]
      rcases List.mem_append.1 hp with hp | hp
      · have := h2 p hp
        omega
      · simp at hp
        subst hp
        omega
    | true =>
      rw [joinS_on pre x hg]
      unfold addLast
      cases hl : (joinS pre).getLast? with
      | none => simp
      | some q =>
        have hq : q ∈ joinS pre := List.mem_of_getLast? hl
        have hne : joinS pre ≠ [] := by rintro e; rw [e] at hl; cases hl
        have hpos : 0 < (joinS pre).length := List.length_pos_iff.2 hne
        refine ⟨by simp; omega, ?_⟩
        intro p hp
        rw [ltot_snoc]
        have ht : x.2.tail.length ≤ x.2.length := by simp
        rcases List.mem_append.1 hp with hp | hp
        · have := h2 p (List.dropLast_subset _ hp)
          omega
        · simp at hp
          subst hp
          have := h2 q hq
          simp only [List.length_append]
          omega
end Go.Proofs.YtoomoicjoockjaaGreatDoor.LdMath

namespace Go.Proofs.YtoomoicjoockjaaGreatDoor
namespace Rd
open TextMath (b64 fold unb)
open LdMath
open Lr (PR RC pf chg okD dnB)
set_option linter.unusedVariables false

/-- What stands ahead of the first colon, and behind it; a line without one has no word. -/
def wordOf (t : List UInt8) : List UInt8 := if t.contains 58 then t.takeWhile (fun c => c != 58) else []
def restOf (t : List UInt8) : List UInt8 := (t.dropWhile (fun c => c != 58)).tail
def verW : List UInt8 := [118, 101, 114, 115, 105, 111, 110]
/-- The fault of a word, by the kind of its line. -/
def wfl (k : Nat) (w : List UInt8) : Nat :=
  if k = 0 then (if fold w = verW then 0 else 72) else if k ≤ 2 then (if fold w = dnB then 0 else 73) else pf (decide (k = 3)) w
def skipS (l : List UInt8) : List UInt8 := l.dropWhile (fun c => c == 32)
/-- The value of a value's text, and its fault. -/
def valOf (t : List UInt8) : List UInt8 × Nat :=
  if t.head? = some 60 then ([], 77)
  else if t.head? = some 58 then (match unb (skipS t.tail) 0 with | .ok v => (v, 0) | .error _ => ([], 76))
  else if safe (skipS t) then (skipS t, 0) else ([], 76)
/-- How far a reader is: the kind of the line that comes; line, name and pairs of the record at hand. -/
abbrev St := Nat × Nat × List UInt8 × List PR
abbrev Rc := Nat × List UInt8 × List PR
/-- A line that is neither blank nor a comment. -/
def takeF (st : St) (t : List UInt8) : Nat :=
  if wfl st.1 (wordOf t) ≠ 0 then wfl st.1 (wordOf t)
  else if st.1 = 0 then (if skipS (restOf t) = [49] then 0 else 72)
  else if st.1 ≤ 2 then (if (valOf (restOf t)).2 = 0 then 0 else 74)
  else (valOf (restOf t)).2
def takeS (st : St) (n : Nat) (t : List UInt8) : St :=
  if st.1 = 0 then (1, st.2)
  else if st.1 ≤ 2 then (3, n, (valOf (restOf t)).1, [])
  else (4, st.2.1, st.2.2.1, st.2.2.2 ++ [(wordOf t, (valOf (restOf t)).1)])
/-- What is told at the end. -/
def fin (e : Nat) (st : St) : List Rc × Nat × Nat :=
  if st.1 = 0 then ([], 72, e) else if st.1 = 1 then ([], 73, e) else if st.1 = 3 then ([], 79, st.2.1) else if st.1 = 4 then ([st.2], 0, 0) else ([], 0, 0)
/-- The records that lines tell, and the fault behind them. -/
def rdL (e : Nat) : St → List (Nat × List UInt8) → List Rc × Nat × Nat
  | st, [] => fin e st
  | st, (n, t) :: ls =>
    if t.head? = some 35 then rdL e st ls
    else if t ≠ [] then (if takeF st t = 0 then rdL e (takeS st n t) ls else ([], takeF st t, n))
    else if st.1 = 3 then fin e st
    else if st.1 = 4 then (st.2 :: (rdL e (2, st.2) ls).1, (rdL e (2, st.2) ls).2)
    else rdL e st ls
def st0 : St := (0, 0, [], [])
/-- What the text's reading gives: the records ahead of the fault, and that. -/
def rdT (b : List UInt8) : List Rc × Nat × Nat :=
  match ferr [] (phys b) with
  | some (e, n) => ([], e, n)
  | none => rdL ((phys b).length + 1) st0 (joinS (phys b))
/-- What Load answers. -/
def ldR (b : List UInt8) : List Rc := if (rdT b).2.1 = 0 then (rdT b).1 else []
end Rd
end Go.Proofs.YtoomoicjoockjaaGreatDoor

namespace Go.Proofs.YtoomoicjoockjaaGreatDoor
namespace Rd
open TextMath (fold unb)
open LdMath
open Lr (PR RC pf chg okD dnB)
set_option linter.unusedVariables false
set_option maxRecDepth 100000

abbrev Ls := List (Nat × List UInt8)
/-- No comment; no blank line. -/
def noC (p : Nat × List UInt8) : Bool := !(p.2.head? == some 35)
def nbl (p : Nat × List UInt8) : Bool := !(p.2 == [])
theorem rdL_noC (e : Nat) : ∀ (L : Ls) (st : St), rdL e st L = rdL e st (L.filter noC)
  | [], st => rfl
  | (n, t) :: L, st => by
    by_cases h : t.head? = some 35
    · have e1 : noC (n, t) = false := by simp [noC, h]
      rw [List.filter_cons_of_neg (by simp [e1]), rdL, if_pos h]
      exact rdL_noC e L st
    · have e1 : noC (n, t) = true := by simp [noC, h]
      rw [List.filter_cons_of_pos e1, rdL, rdL, if_neg h, if_neg h]
      simp only [rdL_noC e L]
def AllN (L : Ls) : Prop := ∀ p ∈ L, ¬ p.2.head? = some 35
theorem allN_filter (L : Ls) : AllN (L.filter noC) := fun p hp => by
  have := (List.mem_filter.1 hp).2
  simpa [noC] using this
/-- The runs of lines that are not blank. -/
def grpF : Nat → Ls → List Ls
  | 0, _ => []
  | n + 1, L => match L.dropWhile (fun p => !(nbl p)) with
    | [] => []
    | x :: l => (x :: l.takeWhile nbl) :: grpF n (l.dropWhile nbl)
theorem drop_len {α : Type} (p : α → Bool) (l : List α) : (l.dropWhile p).length ≤ l.length := by
  induction l with
  | nil => simp
  | cons a l ih =>
    rw [List.dropWhile_cons]
    split
    · simp only [List.length_cons]; omega
    · exact Nat.le_refl _
theorem grpF_mono : ∀ (n : Nat) (L : Ls), L.length < n → grpF n L = grpF (L.length + 1) L
  | 0, L, h => by omega
  | n + 1, L, h => by
    rw [grpF, grpF]
    cases hd : L.dropWhile (fun p => !(nbl p)) with
    | nil => rfl
    | cons x l =>
      have h1 := drop_len (fun p => !(nbl p)) L
      rw [hd, List.length_cons] at h1
      have h2 := drop_len nbl l
      show (x :: l.takeWhile nbl) :: grpF n (l.dropWhile nbl) = (x :: l.takeWhile nbl) :: grpF L.length (l.dropWhile nbl)
      rw [grpF_mono n _ (by omega)]
      by_cases hL : L.length ≤ n
      · rw [grpF_mono L.length _ (by omega)]
      · have e : L.length = n := by omega
        rw [e, grpF_mono n _ (by omega)]
def G (L : Ls) : List Ls := grpF (L.length + 1) L
theorem G_nil : G [] = [] := rfl
theorem G_skip (x : Nat × List UInt8) (L : Ls) (h : nbl x = false) : G (x :: L) = G L := by
  have e : ∀ n, grpF (n + 1) (x :: L) = grpF (n + 1) L := fun n => by
    rw [grpF, grpF, List.dropWhile_cons, if_pos (by rw [h]; rfl)]
  unfold G
  rw [e, grpF_mono _ L (by rw [List.length_cons]; omega)]
theorem G_run (x : Nat × List UInt8) (l : Ls) (h : nbl x = true) : G (x :: l) = (x :: l.takeWhile nbl) :: G (l.dropWhile nbl) := by
  have h2 := drop_len nbl l
  unfold G
  rw [List.length_cons, grpF, List.dropWhile_cons, if_neg (by rw [h]; simp)]
  show (x :: l.takeWhile nbl) :: grpF (l.length + 1) (l.dropWhile nbl) = _
  rw [grpF_mono (l.length + 1) _ (by omega)]
/-- A pair's fault; pairs one after another. -/
def pF (first : Bool) (t : List UInt8) : Nat := if pf first (wordOf t) ≠ 0 then pf first (wordOf t) else (valOf (restOf t)).2
def prsE : Bool → List PR → Ls → List PR × Nat × Nat
  | _, acc, [] => (acc, 0, 0)
  | first, acc, (m, t) :: l => if pF first t ≠ 0 then ([], pF first t, m) else prsE false (acc ++ [(wordOf t, (valOf (restOf t)).1)]) l
theorem takeF_pF (first : Bool) (n : Nat) (nm : List UInt8) (acc : List PR) (t : List UInt8) : takeF ((if first then 3 else 4), n, nm, acc) t = pF first t := by
  unfold takeF pF
  have e : wfl (if first then 3 else 4) (wordOf t) = pf first (wordOf t) := by cases first <;> rfl
  dsimp only
  rw [e]
  have k0 : ¬ (if first then 3 else 4) = 0 := by cases first <;> decide
  have k2 : ¬ (if first then 3 else 4) ≤ 2 := by cases first <;> decide
  rw [if_neg k0, if_neg k2]
/-- What follows a run: nothing, or a blank line. -/
def Nx (R : Ls) : Prop := R = [] ∨ ∃ b R', R = (b, []) :: R'
theorem nbl_ne {p : Nat × List UInt8} (h : nbl p = true) : p.2 ≠ [] := by simpa [nbl] using h
theorem rd_prs (e n : Nat) (nm : List UInt8) (R : Ls) : ∀ (l : Ls) (first : Bool) (acc : List PR), (∀ p ∈ l, nbl p = true ∧ ¬ p.2.head? = some 35) →
    rdL e ((if first then 3 else 4), n, nm, acc) (l ++ R) = if (prsE first acc l).2.1 ≠ 0 then ([], (prsE first acc l).2) else rdL e ((if l = [] then (if first then 3 else 4) else 4), n, nm, (prsE first acc l).1) R
  | [], first, acc, _ => by simp [prsE]
  | (m, t) :: l, first, acc, h => by
    obtain ⟨h1, h2⟩ := h (m, t) List.mem_cons_self
    have h1' : t ≠ [] := nbl_ne h1
    rw [List.cons_append, rdL, if_neg h2, if_pos h1', takeF_pF]
    by_cases hf : pF first t = 0
    · have hS : takeS ((if first then 3 else 4), n, nm, acc) m t = (4, n, nm, acc ++ [(wordOf t, (valOf (restOf t)).1)]) := by
        unfold takeS
        have k0 : ¬ (if first then 3 else 4) = 0 := by cases first <;> decide
        have k2 : ¬ (if first then 3 else 4) ≤ 2 := by cases first <;> decide
        dsimp only
        rw [if_neg k0, if_neg k2]
      have ep : prsE first acc ((m, t) :: l) = prsE false (acc ++ [(wordOf t, (valOf (restOf t)).1)]) l := by rw [prsE, if_neg (by simpa using hf)]
      have ih := rd_prs e n nm R l false (acc ++ [(wordOf t, (valOf (restOf t)).1)]) (fun p hp => h p (List.mem_cons_of_mem _ hp))
      have i4 : (if (false : Bool) = true then 3 else 4) = 4 := rfl
      have i5 : (if l = [] then 4 else 4) = 4 := by split <;> rfl
      have i6 : (if (m, t) :: l = [] then (if first = true then 3 else 4) else 4) = 4 := if_neg (by simp)
      rw [i4, i5] at ih
      rw [if_pos hf, hS, ep, ih, i6]
    · have ep : prsE first acc ((m, t) :: l) = ([], pF first t, m) := by rw [prsE, if_pos hf]
      rw [if_neg hf, ep, if_pos hf]
/-- A record's lines. -/
def rcG : Ls → Rc × Nat × Nat
  | [] => ((0, [], []), 0, 0)
  | (n, t) :: l => if ¬ fold (wordOf t) = dnB then ((0, [], []), 73, n) else if (valOf (restOf t)).2 ≠ 0 then ((0, [], []), 74, n) else if l = [] then ((0, [], []), 79, n) else ((n, (valOf (restOf t)).1, (prsE true [] l).1), (prsE true [] l).2)
theorem rd_grp (e : Nat) (st : St) (hst : st.1 = 1 ∨ st.1 = 2) (x : Nat × List UInt8) (l R : Ls) (h : ∀ p ∈ x :: l, nbl p = true ∧ ¬ p.2.head? = some 35) (hR : Nx R) :
    rdL e st ((x :: l) ++ R) = if (rcG (x :: l)).2.1 ≠ 0 then ([], (rcG (x :: l)).2) else rdL e (4, (rcG (x :: l)).1) R := by
  obtain ⟨n, t⟩ := x
  obtain ⟨h1, h2⟩ := h (n, t) List.mem_cons_self
  have h1' : t ≠ [] := nbl_ne h1
  have k0 : ¬ st.1 = 0 := by rcases hst with h | h <;> rw [h] <;> decide
  have k2 : st.1 ≤ 2 := by rcases hst with h | h <;> rw [h] <;> decide
  have hw : wfl st.1 (wordOf t) = if fold (wordOf t) = dnB then 0 else 73 := by unfold wfl; rw [if_neg k0, if_pos k2]
  obtain ⟨A, hA⟩ : ∃ A, rcG ((n, t) :: l) = A := ⟨_, rfl⟩
  rw [hA]
  rw [rcG] at hA
  rw [List.cons_append, rdL, if_neg h2, if_pos h1']
  by_cases hd : fold (wordOf t) = dnB
  · rw [if_pos hd] at hw
    rw [if_neg (fun h => h hd)] at hA
    by_cases hv : (valOf (restOf t)).2 = 0
    · have hF : takeF st t = 0 := by unfold takeF; rw [hw, if_neg (by simp), if_neg k0, if_pos k2, if_pos hv]
      have hS : takeS st n t = (3, n, (valOf (restOf t)).1, []) := by unfold takeS; rw [if_neg k0, if_pos k2]
      rw [if_neg (fun h => h hv)] at hA
      rw [if_pos hF, hS]
      by_cases hl : l = []
      · subst hl
        rw [if_pos rfl] at hA
        subst hA
        rw [if_pos (by simp), List.nil_append]
        rcases hR with rfl | ⟨b, R', rfl⟩
        · rfl
        · rw [rdL, if_neg (by simp), if_neg (by simp), if_pos rfl]
          rfl
      · have ih := rd_prs e n (valOf (restOf t)).1 R l true [] (fun p hp => h p (List.mem_cons_of_mem _ hp))
        have i3 : (if (true : Bool) = true then 3 else 4) = 3 := rfl
        rw [i3, if_neg hl] at ih
        rw [if_neg hl] at hA
        subst hA
        exact ih
    · have hF : takeF st t = 74 := by unfold takeF; rw [hw, if_neg (by simp), if_neg k0, if_pos k2, if_neg hv]
      rw [if_pos hv] at hA
      subst hA
      rw [hF, if_neg (by decide), if_pos (by simp)]
  · rw [if_neg hd] at hw
    rw [if_pos hd] at hA
    subst hA
    have hF : takeF st t = 73 := by unfold takeF; rw [hw, if_pos (by decide)]
    rw [hF, if_neg (by decide), if_pos (by simp)]
/-- The records of runs. -/
def rdG (e : Nat) : Bool → List Ls → List Rc × Nat × Nat
  | b, [] => if b then ([], 73, e) else ([], 0, 0)
  | _, g :: gs => if (rcG g).2.1 ≠ 0 then ([], (rcG g).2) else ((rcG g).1 :: (rdG e false gs).1, (rdG e false gs).2)
theorem nx_drop (l : Ls) : Nx (l.dropWhile nbl) := by
  induction l with
  | nil => exact .inl rfl
  | cons x l ih =>
    rw [List.dropWhile_cons]
    split
    · exact ih
    · rename_i hx
      obtain ⟨n, t⟩ := x
      have : t = [] := by simpa [nbl] using hx
      subst this
      exact .inr ⟨n, l, rfl⟩
theorem rdL_G (e : Nat) : ∀ (k : Nat) (L : Ls) (st : St), L.length < k → st.1 = 1 ∨ st.1 = 2 → AllN L → rdL e st L = rdG e (decide (st.1 = 1)) (G L)
  | 0, L, _, h, _, _ => by omega
  | k + 1, [], st, _, hst, _ => by
    rw [rdL, G_nil, rdG]
    unfold fin
    rcases hst with h | h <;> rw [h] <;> rfl
  | k + 1, (n, t) :: l, st, hk, hst, hN => by
    have hNl : AllN l := fun p hp => hN p (List.mem_cons_of_mem _ hp)
    have h35 := hN (n, t) List.mem_cons_self
    by_cases ht : t = []
    · subst ht
      rw [G_skip _ _ rfl, rdL, if_neg (by simp), if_neg (by simp), if_neg (by omega), if_neg (by omega)]
      exact rdL_G e k l st (by simpa using hk) hst hNl
    · have hx : nbl (n, t) = true := by simp [nbl, ht]
      obtain ⟨T, hT⟩ : ∃ T, l.takeWhile nbl = T := ⟨_, rfl⟩
      obtain ⟨R, hR⟩ : ∃ R, l.dropWhile nbl = R := ⟨_, rfl⟩
      have hl : l = T ++ R := by rw [← hT, ← hR, List.takeWhile_append_dropWhile]
      have hTn : ∀ p ∈ (n, t) :: T, nbl p = true ∧ ¬ p.2.head? = some 35 := fun p hp => by
        rcases List.mem_cons.1 hp with rfl | hp
        · exact ⟨hx, h35⟩
        · refine ⟨?_, hNl p (by rw [hl]; exact List.mem_append_left _ hp)⟩
          have : ∀ (l : Ls) (q : Nat × List UInt8), q ∈ l.takeWhile nbl → nbl q = true := by
            intro l
            induction l with
            | nil => intro q hq; simp at hq
            | cons y l ih =>
              intro q hq
              rw [List.takeWhile_cons] at hq
              split at hq
              · rcases List.mem_cons.1 hq with rfl | hq
                · assumption
                · exact ih q hq
              · simp at hq
          exact this l p (by rw [hT]; exact hp)
      have hNx : Nx R := by rw [← hR]; exact nx_drop l
      rw [G_run _ _ hx, hT, hR, rdG]
      have e0 : (n, t) :: l = ((n, t) :: T) ++ R := by rw [hl]; rfl
      rw [e0, rd_grp e st hst (n, t) T R hTn hNx]
      by_cases hf : (rcG ((n, t) :: T)).2.1 = 0
      · rw [if_neg (by simpa using hf), if_neg (by simpa using hf)]
        have hlen : R.length < k := by have := drop_len nbl l; rw [hR] at this; simp only [List.length_cons] at hk; omega
        rcases hNx with rfl | ⟨b, R', rfl⟩
        · rfl
        · have ih := rdL_G e k R' (2, (rcG ((n, t) :: T)).1) (by simp only [List.length_cons] at hlen; omega) (.inr rfl) (fun p hp => hNl p (by rw [hl]; simp [hp]))
          rw [G_skip _ _ rfl, rdL, if_neg (by simp), if_neg (by simp), if_neg (by simp), if_pos rfl]
          have e1 : decide ((2 : Nat) = 1) = false := rfl
          rw [e1] at ih
          rw [ih]
      · rw [if_pos hf, if_pos hf]
/-- Is a line's front that word. -/
theorem word_front (W t : List UInt8) (h58 : 58 ∉ W) (h0 : W ≠ []) (hlo : ∀ c : UInt8, TextMath.lo c = 58 → c = 58) : fold (wordOf t) = W ↔ fold (t.take (W.length + 1)) = W ++ [58] := by
  have lo58 : TextMath.lo 58 = 58 := by decide
  constructor
  · intro h
    have hc : t.contains 58 = true := by
      cases hb : t.contains 58 with
      | true => rfl
      | false =>
        unfold wordOf at h
        rw [hb, if_neg (by decide)] at h
        exact absurd h.symm h0
    have hw : wordOf t = t.takeWhile (fun c => c != 58) := by unfold wordOf; rw [if_pos hc]
    have hlen : (wordOf t).length = W.length := by rw [← h]; simp [fold]
    have hsplit : t = t.takeWhile (fun c => c != 58) ++ t.dropWhile (fun c => c != 58) := List.takeWhile_append_dropWhile.symm
    cases hd : t.dropWhile (fun c => c != 58) with
    | nil =>
      have hm : (58 : UInt8) ∈ t := by simpa using hc
      rw [hsplit, hd, List.append_nil] at hm
      have : ∀ (l : List UInt8) (q : UInt8), q ∈ l.takeWhile (fun c => c != 58) → q ≠ 58 := by
        intro l
        induction l with
        | nil => intro q hq; simp at hq
        | cons y l ih =>
          intro q hq
          rw [List.takeWhile_cons] at hq
          split at hq
          · rename_i hy
            rcases List.mem_cons.1 hq with rfl | hq
            · simpa using hy
            · exact ih q hq
          · simp at hq
      exact absurd rfl (this t 58 hm)
    | cons c r =>
      have hc58 : c = 58 := by
        have : ∀ (l : List UInt8), l.dropWhile (fun c => c != 58) = c :: r → c = 58 := by
          intro l
          induction l with
          | nil => intro hq; simp at hq
          | cons y l ih =>
            intro hq
            rw [List.dropWhile_cons] at hq
            split at hq
            · exact ih hq
            · rename_i hy
              injection hq with h1 h2
              rw [← h1]
              simpa using hy
        exact this t hd
      rw [hw] at hlen h
      have ht : t.take (W.length + 1) = t.takeWhile (fun c => c != 58) ++ [58] := by
        conv => lhs; rw [hsplit, hd, hc58]
        rw [← hlen, List.take_append, List.take_of_length_le (by omega)]
        simp
      rw [ht]
      unfold fold at h ⊢
      rw [List.map_append, h]
      simp [lo58]
  · intro h
    have hlen : (t.take (W.length + 1)).length = W.length + 1 := by
      have := congrArg List.length h
      simpa [fold] using this
    have hl : W.length + 1 ≤ t.length := by rw [List.length_take] at hlen; omega
    have h1 : t.take (W.length + 1) = t.take W.length ++ [t[W.length]] := List.take_succ_eq_append_getElem (by omega)
    rw [h1] at h
    unfold fold at h
    rw [List.map_append] at h
    obtain ⟨ha, hb⟩ := List.append_inj' h rfl
    have hc : t[W.length] = 58 := hlo _ (by simpa using hb)
    have hno : ∀ q ∈ t.take W.length, (q != 58) = true := fun q hq => by
      rw [bne_iff_ne]
      intro e
      have : TextMath.lo q ∈ W := by rw [← ha]; exact List.mem_map_of_mem hq
      rw [e, lo58] at this
      exact h58 this
    have hsp : t = t.take W.length ++ 58 :: t.drop (W.length + 1) := by
      conv => lhs; rw [← List.take_append_drop W.length t, List.drop_eq_getElem_cons (by omega), hc]
    have hw : wordOf t = t.take W.length := by
      unfold wordOf
      rw [if_pos (by rw [hsp]; simp)]
      conv => lhs; rw [hsp, List.takeWhile_append_of_pos hno]
      simp
    rw [hw]
    exact ha
theorem rest_front (W t : List UInt8) (h58 : 58 ∉ W) (h : fold (t.take (W.length + 1)) = W ++ [58]) (hlo : ∀ c : UInt8, TextMath.lo c = 58 → c = 58) : restOf t = t.drop (W.length + 1) := by
  have lo58 : TextMath.lo 58 = 58 := by decide
  have hlen : (t.take (W.length + 1)).length = W.length + 1 := by
    have := congrArg List.length h
    simpa [fold] using this
  have hl : W.length + 1 ≤ t.length := by rw [List.length_take] at hlen; omega
  have h1 : t.take (W.length + 1) = t.take W.length ++ [t[W.length]] := List.take_succ_eq_append_getElem (by omega)
  rw [h1] at h
  unfold fold at h
  rw [List.map_append] at h
  obtain ⟨ha, hb⟩ := List.append_inj' h rfl
  have hc : t[W.length] = 58 := hlo _ (by simpa using hb)
  have hno : ∀ q ∈ t.take W.length, (q != 58) = true := fun q hq => by
    rw [bne_iff_ne]
    intro e
    have : TextMath.lo q ∈ W := by rw [← ha]; exact List.mem_map_of_mem hq
    rw [e, lo58] at this
    exact h58 this
  have hsp : t = t.take W.length ++ 58 :: t.drop (W.length + 1) := by
    conv => lhs; rw [← List.take_append_drop W.length t, List.drop_eq_getElem_cons (by omega), hc]
  unfold restOf
  conv => lhs; rw [hsp, List.dropWhile_append_of_pos hno]
  simp
theorem lo_colon : ∀ c : UInt8, TextMath.lo c = 58 → c = 58 := by
  intro c h
  unfold TextMath.lo at h
  split at h
  · rename_i hc
    have h2 := congrArg UInt8.toNat h
    revert hc h2
    simp
    intros
    exfalso
    omega
  · exact h
/-- The version line. -/
def isV (t : List UInt8) : Bool := (fold (t.take 8) == verW ++ [58]) && (skipS (t.drop 8) == [49])
theorem isV_take (t : List UInt8) : (takeF st0 t = 0 ↔ isV t = true) ∧ (isV t = false → takeF st0 t = 72) := by
  have hw := word_front verW t (by decide) (by decide) lo_colon
  have hl : verW.length + 1 = 8 := rfl
  rw [hl] at hw
  have e0 : takeF st0 t = if wfl 0 (wordOf t) ≠ 0 then wfl 0 (wordOf t) else if skipS (restOf t) = [49] then 0 else 72 := rfl
  have e1 : wfl 0 (wordOf t) = if fold (wordOf t) = verW then 0 else 72 := rfl
  rw [e0, e1]
  unfold isV
  by_cases h : fold (wordOf t) = verW
  · have h2 := hw.1 h
    have h3 := rest_front verW t (by decide) h2 lo_colon
    rw [hl] at h3
    rw [if_pos h, if_neg (by simp), h3, h2]
    by_cases hs : skipS (t.drop 8) = [49]
    · rw [if_pos hs, hs]; simp
    · rw [if_neg hs]
      have : (skipS (t.drop 8) == [49]) = false := by simpa using hs
      rw [this]; simp
  · have h2 : ¬ fold (t.take 8) = verW ++ [58] := fun h' => h (hw.2 h')
    have : (fold (t.take 8) == verW ++ [58]) = false := by simpa using h2
    rw [if_neg h, if_pos (by decide), this]
    simp
/-- What Groups answers. -/
def grA (E : Nat) (L : Ls) : List Ls × Nat × Nat := match L.dropWhile (fun p => !(nbl p)) with
  | [] => ([], 72, E)
  | (n, t) :: l => if isV t = false then ([], 72, n) else if G l = [] then ([], 73, E) else (G l, 0, 0)
def rdA (E : Nat) (L : Ls) : List Rc × Nat × Nat := if (grA E L).2.1 ≠ 0 then ([], (grA E L).2) else rdG E false (grA E L).1
theorem rd_st0 (e : Nat) : ∀ (L : Ls), AllN L → rdL e st0 L = rdA e L
  | [], _ => rfl
  | (n, t) :: l, hN => by
    have hNl : AllN l := fun p hp => hN p (List.mem_cons_of_mem _ hp)
    have h35 := hN (n, t) List.mem_cons_self
    by_cases ht : t = []
    · subst ht
      have e1 : rdA e ((n, []) :: l) = rdA e l := by
        have : grA e ((n, []) :: l) = grA e l := by unfold grA; rw [List.dropWhile_cons, if_pos (by rfl)]
        unfold rdA
        rw [this]
      rw [e1, rdL, if_neg (by simp), if_neg (by simp), if_neg (by decide), if_neg (by decide)]
      exact rd_st0 e l hNl
    · have hx : nbl (n, t) = true := by simp [nbl, ht]
      have eg : grA e ((n, t) :: l) = if isV t = false then ([], 72, n) else if G l = [] then ([], 73, e) else (G l, 0, 0) := by
        unfold grA
        rw [List.dropWhile_cons, if_neg (by rw [hx]; simp)]
      obtain ⟨v1, v2⟩ := isV_take t
      rw [rdL, if_neg h35, if_pos ht]
      cases hv : isV t with
      | false =>
        have h72 := v2 hv
        rw [hv, if_pos rfl] at eg
        unfold rdA
        rw [eg, h72, if_neg (by decide), if_pos (by simp)]
      | true =>
        have hS : takeS st0 n t = (1, 0, [], []) := rfl
        rw [hv, if_neg (by decide)] at eg
        rw [if_pos (v1.2 hv), hS, rdL_G e (l.length + 1) l _ (by omega) (.inl rfl) hNl]
        unfold rdA
        by_cases hG : G l = []
        · rw [if_pos hG] at eg
          rw [eg, hG, if_pos (by simp)]
          rfl
        · rw [if_neg hG] at eg
          rw [eg, if_neg (by simp)]
          cases hg : G l with
          | nil => exact absurd hg hG
          | cons g gs => rfl
theorem rdT_A (b : List UInt8) (h : ferr [] (phys b) = none) : rdT b = rdA ((phys b).length + 1) ((joinS (phys b)).filter noC) := by
  unfold rdT
  rw [h]
  show rdL _ st0 _ = _
  rw [rdL_noC]
  exact rd_st0 _ _ (allN_filter _)
end Rd
end Go.Proofs.YtoomoicjoockjaaGreatDoor
