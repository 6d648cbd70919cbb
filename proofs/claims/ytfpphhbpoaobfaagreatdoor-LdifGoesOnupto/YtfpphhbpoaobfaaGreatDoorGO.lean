import Derived.Test.YtfpphhbpoaobfaaGreatDoorGPL
import Derived.Test.YtfpphhbpoaobfaaGreatDoorBaseMath
import Derived.Test.YtfpphhbpoaobfaaGreatDoorGM
namespace Go.Proofs.YtfpphhbpoaobfaaGreatDoor
namespace Rd
open TextMath (b64 fold unb grp al)
open LdMath
open Lr (PR RC pf chg okD dnB)
set_option linter.unusedVariables false
set_option maxRecDepth 100000

theorem phR_no : ∀ (l : List UInt8) (n : Nat) (acc : List UInt8), 10 ∉ l → phR n acc l = if acc ++ l = [] then [] else [(n, acc ++ l)]
  | [], n, acc, _ => by rw [phR, List.append_nil]
  | c :: l, n, acc, h => by
    have hc : ¬ c = 10 := fun e => h (by rw [e]; exact List.mem_cons_self)
    rw [phR, if_neg hc, phR_no l n _ (fun h' => h (List.mem_cons_of_mem _ h')), List.append_assoc]
    rfl
theorem phR_line : ∀ (l r : List UInt8) (n : Nat) (acc : List UInt8), 10 ∉ l → phR n acc (l ++ 10 :: r) = (n, trimCR (acc ++ l)) :: phR (n + 1) [] r
  | [], r, n, acc, _ => by rw [List.nil_append, phR, if_pos rfl, List.append_nil]
  | c :: l, r, n, acc, h => by
    have hc : ¬ c = 10 := fun e => h (by rw [e]; exact List.mem_cons_self)
    rw [List.cons_append, phR, if_neg hc, phR_line l r n _ (fun h' => h (List.mem_cons_of_mem _ h')), List.append_assoc]
    rfl
/-- Bytes that no text of base64 holds. -/
def gb (b : UInt8) : Prop := b ≠ 10 ∧ b ≠ 13 ∧ b ≠ 32
theorem gb_al (n : Nat) (h : n < 64) : gb (al n) := by
  have h1 := TextMath.al_toNat n h
  refine ⟨?_, ?_, ?_⟩
  all_goals
    intro e
    rw [e] at h1
    revert h1
    simp only [UInt8.reduceToNat]
    repeat' split
    all_goals omega
theorem gb_pad : gb 61 := by unfold gb; decide
theorem gb_grp : ∀ l : List UInt8, ∀ b ∈ grp l, gb b := by
  intro l b hb
  unfold grp at hb
  split at hb
  · rename_i x
    have := x.toNat_lt
    simp only [List.mem_cons, List.mem_nil_iff, or_false] at hb
    rcases hb with rfl | rfl | rfl | rfl
    · exact gb_al _ (by omega)
    · exact gb_al _ (by omega)
    · exact gb_pad
    · exact gb_pad
  · rename_i x y
    have := x.toNat_lt
    have := y.toNat_lt
    simp only [List.mem_cons, List.mem_nil_iff, or_false] at hb
    rcases hb with rfl | rfl | rfl | rfl
    · exact gb_al _ (by omega)
    · exact gb_al _ (by omega)
    · exact gb_al _ (by omega)
    · exact gb_pad
  · rename_i x y z
    have := x.toNat_lt
    have := y.toNat_lt
    have := z.toNat_lt
    simp only [List.mem_cons, List.mem_nil_iff, or_false] at hb
    rcases hb with rfl | rfl | rfl | rfl
    · exact gb_al _ (by omega)
    · exact gb_al _ (by omega)
    · exact gb_al _ (by omega)
    · exact gb_al _ (by omega)
  · simp at hb
theorem gb_b64 : ∀ l : List UInt8, ∀ b ∈ b64 l, gb b
  | [], b, hb => by simp [b64] at hb
  | [x], b, hb => by unfold b64 at hb; exact gb_grp _ b hb
  | [x, y], b, hb => by unfold b64 at hb; exact gb_grp _ b hb
  | x :: y :: z :: t, b, hb => by
    unfold b64 at hb
    rcases List.mem_append.1 hb with h | h
    · exact gb_grp _ b h
    · exact gb_b64 t b h
theorem skip_b64 (v : List UInt8) : skipS (32 :: b64 v) = b64 v := by
  unfold skipS
  rw [List.dropWhile_cons, if_pos (by decide)]
  have h := gb_b64 v
  generalize b64 v = x at h
  cases x with
  | nil => rfl
  | cons c x => rw [List.dropWhile_cons, if_neg (by have := (h c List.mem_cons_self).2.2; simpa using this)]
/-- The texts of LdifRaw. -/
def L1 : List UInt8 := [118, 101, 114, 115, 105, 111, 110, 58, 32, 49]
def L3 : List UInt8 := [100, 110, 58, 32, 111, 61, 120]
def L4 : List UInt8 := [111, 58, 32, 120]
def L5 (w : List UInt8) : List UInt8 := 99 :: 110 :: 58 :: 32 :: w
def rawA (w : List UInt8) : List UInt8 := L1 ++ 10 :: ([] ++ 10 :: (L3 ++ 10 :: (L4 ++ 10 :: L5 w)))
def M3 (v : List UInt8) : List UInt8 := 100 :: 110 :: 58 :: 58 :: 32 :: b64 v
def M4 (v : List UInt8) : List UInt8 := 67 :: 78 :: 59 :: 120 :: 58 :: 58 :: 32 :: b64 v
def rawB (v : List UInt8) : List UInt8 := L1 ++ 10 :: ([] ++ 10 :: (M3 v ++ 10 :: (M4 v ++ 10 :: [])))
theorem physA (w : List UInt8) (h10 : 10 ∉ w) : phys (rawA w) = [(1, L1), (2, []), (3, L3), (4, L4), (5, L5 w)] := by
  rw [phys_eq]
  unfold rawA
  have h5 : 10 ∉ L5 w := by unfold L5; simp [h10]
  rw [phR_line L1 _ _ _ (by decide), phR_line [] _ _ _ (by decide), phR_line L3 _ _ _ (by decide), phR_line L4 _ _ _ (by decide), phR_no _ _ _ h5]
  rw [if_neg (by unfold L5; simp)]
  simp only [List.nil_append]
  rw [trim_no L1 (by decide), trim_no [] (by decide), trim_no L3 (by decide), trim_no L4 (by decide)]
theorem nB (v : List UInt8) : (10 ∉ M3 v ∧ 13 ∉ M3 v) ∧ 10 ∉ M4 v ∧ 13 ∉ M4 v := by
  have h1 : 10 ∉ b64 v := fun h => (gb_b64 v _ h).1 rfl
  have h2 : 13 ∉ b64 v := fun h => (gb_b64 v _ h).2.1 rfl
  unfold M3 M4
  simp [h1, h2]
theorem physB (v : List UInt8) : phys (rawB v) = [(1, L1), (2, []), (3, M3 v), (4, M4 v)] := by
  obtain ⟨⟨h1, h2⟩, h3, h4⟩ := nB v
  rw [phys_eq]
  unfold rawB
  rw [phR_line L1 _ _ _ (by decide), phR_line [] _ _ _ (by decide), phR_line _ _ _ _ h1, phR_line _ _ _ _ h3, phR_no _ _ _ (by decide)]
  rw [if_pos (by simp)]
  simp only [List.nil_append]
  rw [trim_no L1 (by decide), trim_no [] (by decide), trim_no _ h2, trim_no _ h4]
theorem flt_no (a x : List UInt8) (h : 13 ∉ x) (hg : goes x = false) : flt a x = none := by
  unfold flt
  rw [if_neg (by simpa using h), hg]
  rfl
theorem ferr_no (l : List (Nat × List UInt8)) : ∀ a, (∀ p ∈ l, 13 ∉ p.2 ∧ goes p.2 = false) → ferr a l = none := by
  induction l with
  | nil => intro a _; rfl
  | cons x l ih =>
    intro a h
    have hx := h x List.mem_cons_self
    rw [ferr, flt_no a x.2 hx.1 hx.2]
    exact ih _ (fun p hp => h p (List.mem_cons_of_mem _ hp))
theorem joinS_no (l : List (Nat × List UInt8)) : (∀ p ∈ l, goes p.2 = false) → joinS l = l := by
  induction l using snocInd with
  | nil => intro _; rfl
  | append_singleton pre x ih =>
    intro h
    rw [joinS_new pre x (h x (by simp)), ih (fun p hp => h p (List.mem_append_left _ hp))]
theorem rdT_no (b : List UInt8) (l : List (Nat × List UInt8)) (hp : phys b = l) (h : ∀ p ∈ l, 13 ∉ p.2 ∧ goes p.2 = false) : rdT b = rdL (l.length + 1) st0 l := by
  unfold rdT
  rw [hp, ferr_no l [] h, joinS_no l (fun p hp => (h p hp).2)]
/-- What is read. -/
theorem rdA (w : List UInt8) (h10 : 10 ∉ w) (h13 : 13 ∉ w) : rdT (rawA w) = if safe (skipS w) then ([(3, [111, 61, 120], [([111], [120]), ([99, 110], skipS w)])], 0, 0) else ([], 76, 5) := by
  rw [rdT_no _ _ (physA w h10) (by
    intro p hp
    simp only [List.mem_cons, List.mem_nil_iff, or_false] at hp
    rcases hp with rfl | rfl | rfl | rfl | rfl
    · decide
    · decide
    · decide
    · decide
    · refine ⟨?_, rfl⟩
      show 13 ∉ L5 w
      unfold L5
      simp [h13])]
  have t1 : takeF st0 L1 = 0 ∧ takeS st0 1 L1 = (1, 0, [], []) := by decide
  have t3 : takeF (1, 0, [], []) L3 = 0 ∧ takeS (1, 0, [], []) 3 L3 = (3, 3, [111, 61, 120], []) := by decide
  have t4 : takeF (3, 3, [111, 61, 120], []) L4 = 0 ∧ takeS (3, 3, [111, 61, 120], []) 4 L4 = (4, 3, [111, 61, 120], [([111], [120])]) := by decide
  have w5 : wordOf (L5 w) = [99, 110] := by unfold wordOf L5; simp
  have r5 : restOf (L5 w) = 32 :: w := by unfold restOf L5; simp
  have v5 : valOf (32 :: w) = if safe (skipS w) then (skipS w, 0) else ([], 76) := by
    unfold valOf
    have e : skipS (32 :: w) = skipS w := rfl
    rw [if_neg (by simp), if_neg (by simp), e]
  have f5 : takeF (4, 3, [111, 61, 120], [([111], [120])]) (L5 w) = if safe (skipS w) then 0 else 76 := by
    unfold takeF
    rw [w5, r5, v5, if_neg (by decide), if_neg (by decide), if_neg (by decide)]
    split <;> rfl
  have s5 : takeS (4, 3, [111, 61, 120], [([111], [120])]) 5 (L5 w) = (4, 3, [111, 61, 120], [([111], [120]), ([99, 110], (valOf (32 :: w)).1)]) := by
    unfold takeS
    rw [w5, r5, if_neg (by decide), if_neg (by decide)]
    rfl
  rw [rdL, if_neg (by decide), if_pos (by decide), if_pos t1.1, t1.2]
  rw [rdL, if_neg (by decide), if_neg (by decide), if_neg (by decide), if_neg (by decide)]
  rw [rdL, if_neg (by decide), if_pos (by decide), if_pos t3.1, t3.2]
  rw [rdL, if_neg (by decide), if_pos (by decide), if_pos t4.1, t4.2]
  rw [rdL, if_neg (by unfold L5; simp), if_pos (by unfold L5; simp), f5, s5, v5]
  by_cases hs : safe (skipS w) = true
  · rw [if_pos hs, if_pos hs, if_pos hs, if_pos rfl]
    rfl
  · rw [if_neg hs, if_neg hs, if_neg hs, if_neg (by decide)]
theorem rdB (v : List UInt8) : rdT (rawB v) = ([(3, v, [([67, 78, 59, 120], v)])], 0, 0) := by
  obtain ⟨⟨h1, h2⟩, h3, h4⟩ := nB v
  rw [rdT_no _ _ (physB v) (by
    intro p hp
    simp only [List.mem_cons, List.mem_nil_iff, or_false] at hp
    rcases hp with rfl | rfl | rfl | rfl
    · decide
    · decide
    · exact ⟨h2, rfl⟩
    · exact ⟨h4, rfl⟩)]
  have t1 : takeF st0 L1 = 0 ∧ takeS st0 1 L1 = (1, 0, [], []) := by decide
  have vv : valOf (58 :: 32 :: b64 v) = (v, 0) := by
    unfold valOf
    rw [if_neg (by simp), if_pos (by rfl)]
    show (match unb (skipS (32 :: b64 v)) 0 with | .ok v => (v, 0) | .error _ => ([], 76)) = (v, 0)
    rw [skip_b64, TextMath.unb_b64]
  have w3 : wordOf (M3 v) = [100, 110] := by unfold wordOf M3; simp
  have r3 : restOf (M3 v) = 58 :: 32 :: b64 v := by unfold restOf M3; simp
  have w4 : wordOf (M4 v) = [67, 78, 59, 120] := by unfold wordOf M4; simp
  have r4 : restOf (M4 v) = 58 :: 32 :: b64 v := by unfold restOf M4; simp
  have t3 : takeF (1, 0, [], []) (M3 v) = 0 ∧ takeS (1, 0, [], []) 3 (M3 v) = (3, 3, v, []) := by
    unfold takeF takeS
    rw [w3, r3, vv]
    refine ⟨?_, ?_⟩
    · rw [if_neg (by decide), if_neg (by decide), if_pos (by decide), if_pos rfl]
    · rw [if_neg (by decide), if_pos (by decide)]
  have t4 : takeF (3, 3, v, []) (M4 v) = 0 ∧ takeS (3, 3, v, []) 4 (M4 v) = (4, 3, v, [([67, 78, 59, 120], v)]) := by
    unfold takeF takeS
    rw [w4, r4, vv]
    refine ⟨?_, ?_⟩
    · rw [if_neg (by show ¬ wfl 3 [67, 78, 59, 120] ≠ 0; decide), if_neg (by simp), if_neg (by simp)]
    · rw [if_neg (by simp), if_neg (by simp)]
      rfl
  rw [rdL, if_neg (by decide), if_pos (by decide), if_pos t1.1, t1.2]
  rw [rdL, if_neg (by decide), if_neg (by decide), if_neg (by decide), if_neg (by decide)]
  rw [rdL, if_neg (by unfold M3; simp), if_pos (by unfold M3; simp), if_pos t3.1, t3.2]
  rw [rdL, if_neg (by unfold M4; simp), if_pos (by unfold M4; simp), if_pos t4.1, t4.2]
  rfl
theorem ldA (w : List UInt8) (h10 : 10 ∉ w) (h13 : 13 ∉ w) : ldR (rawA w) = if safe (skipS w) then [(3, [111, 61, 120], [([111], [120]), ([99, 110], skipS w)])] else [] := by
  unfold ldR
  rw [rdA w h10 h13]
  split <;> rfl
theorem ldB (v : List UInt8) : ldR (rawB v) = [(3, v, [([67, 78, 59, 120], v)])] := by
  unfold ldR
  rw [rdB v]
  rfl
end Rd
end Go.Proofs.YtfpphhbpoaobfaaGreatDoor

namespace Go.Proofs.YtfpphhbpoaobfaaGreatDoor.LdMath

/-- Is the line broken ahead of its byte k? -/
def brk (w k : Nat) : List UInt8 := if w ≤ k ∧ (k - w) % (w - 1) = 0 then [10, 32] else []
/-- A line's first k bytes, folded at w. -/
def rf (w : Nat) (t : List UInt8) : Nat → List UInt8
  | 0 => []
  | k + 1 => rf w t k ++ (brk w k ++ (t.drop k).take 1)
/-- A line folded at w. -/
def fld (w : Nat) (t : List UInt8) : List UInt8 := rf w t t.length ++ [10]
/-- Lines folded at w. -/
def flds (w : Nat) (L : List (Nat × List UInt8)) : List UInt8 := L.flatMap (fun p => fld w p.2)
theorem flds_snoc (w : Nat) (L : List (Nat × List UInt8)) (p : Nat × List UInt8) : flds w (L ++ [p]) = flds w L ++ fld w p.2 := by simp [flds]
theorem brk_len (w k : Nat) : (brk w k).length ≤ 2 := by unfold brk; split <;> simp
theorem rf_len (w : Nat) (t : List UInt8) : ∀ k, (rf w t k).length ≤ 3 * k
  | 0 => Nat.le_refl _
  | k + 1 => by
    have h1 := rf_len w t k
    have h2 := brk_len w k
    have h3 : ((t.drop k).take 1).length ≤ 1 := by rw [List.length_take]; omega
    show (rf w t k ++ (brk w k ++ (t.drop k).take 1)).length ≤ _
    rw [List.length_append, List.length_append]
    omega
theorem fld_len (w : Nat) (t : List UInt8) : (fld w t).length ≤ 3 * t.length + 1 := by
  have := rf_len w t t.length
  unfold fld
  rw [List.length_append]
  simp
  omega
theorem flds_len (w : Nat) : ∀ (L : List (Nat × List UInt8)), (flds w L).length ≤ 3 * ltot L + L.length
  | [] => Nat.le_refl _
  | p :: L => by
    have h1 := flds_len w L
    have h2 := fld_len w p.2
    have e : flds w (p :: L) = fld w p.2 ++ flds w L := rfl
    have e2 : ltot (p :: L) = p.2.length + ltot L := rfl
    rw [e, List.length_append, e2, List.length_cons]
    omega
theorem ltot_app (a b : List (Nat × List UInt8)) : ltot (a ++ b) = ltot a + ltot b := by simp [ltot]
theorem joinS_ltot : ∀ (l : List (Nat × List UInt8)), ltot (joinS l) ≤ ltot l := by
  intro l
  induction l using snocInd with
  | nil => exact Nat.le_refl _
  | append_singleton pre x ih =>
    rw [ltot_snoc]
    cases hg : goes x.2 with
    | false => rw [joinS_new pre x hg, ltot_snoc]; omega
    | true =>
      rw [joinS_on pre x hg]
      have ht : x.2.tail.length ≤ x.2.length := by simp
      rcases List.eq_nil_or_concat (joinS pre) with h | ⟨L0, p, h⟩
      · rw [h]
        exact Nat.zero_le _
      · rw [List.concat_eq_append] at h
        rw [h] at ih ⊢
        have e : addLast (L0 ++ [p]) x.2.tail = L0 ++ [(p.1, p.2 ++ x.2.tail)] := addLast_snoc L0 p.1 p.2 x.2.tail
        rw [e, ltot_snoc]
        rw [ltot_snoc] at ih
        simp only [List.length_append]
        omega
/-- The first stretch is not broken. -/
theorem rf_front (w : Nat) (t : List UInt8) : ∀ k, k ≤ w → k ≤ t.length → rf w t k = t.take k
  | 0, _, _ => by simp [rf]
  | k + 1, h, hl => by
    have ih := rf_front w t k (by omega) (by omega)
    show rf w t k ++ (brk w k ++ (t.drop k).take 1) = _
    have hb : brk w k = [] := by unfold brk; rw [if_neg (by omega)]
    rw [ih, hb, List.nil_append, List.take_add]
theorem mod_add (a q m : Nat) (hq : q < m) (ha : a % m = 0) : (a + q) % m = q := by
  rw [Nat.add_mod, ha, Nat.zero_add, Nat.mod_mod, Nat.mod_eq_of_lt hq]
/-- A stretch behind a place at which the line is broken. -/
theorem rf_next (w : Nat) (t : List UInt8) (p : Nat) (hw : 2 ≤ w) (hp : w ≤ p) (hm : (p - w) % (w - 1) = 0) : ∀ q, 1 ≤ q → q ≤ w - 1 → p + q ≤ t.length → rf w t (p + q) = rf w t p ++ ([10, 32] ++ (t.drop p).take q)
  | 0, h, _, _ => by omega
  | 1, _, _, _ => by
    show rf w t p ++ (brk w p ++ (t.drop p).take 1) = _
    have hb : brk w p = [10, 32] := by unfold brk; rw [if_pos ⟨hp, hm⟩]
    rw [hb]
  | q + 2, _, h2, hl => by
    have ih := rf_next w t p hw hp hm (q + 1) (by omega) (by omega) (by omega)
    show rf w t (p + (q + 1)) ++ (brk w (p + (q + 1)) ++ (t.drop (p + (q + 1))).take 1) = _
    have hb : brk w (p + (q + 1)) = [] := by
      unfold brk
      rw [if_neg]
      rintro ⟨_, h⟩
      have e : p + (q + 1) - w = (p - w) + (q + 1) := by omega
      rw [e, mod_add _ _ _ (by omega) hm] at h
      omega
    rw [ih, hb, List.nil_append, List.append_assoc, List.append_assoc]
    congr 2
    rw [← List.drop_drop]
    exact (List.take_add (l := t.drop p) (i := q + 1) (j := 1)).symm
theorem rf_snoc (w : Nat) (t : List UInt8) (k : Nat) (h : k < t.length) : rf w t (k + 1) = rf w t k ++ (brk w k ++ [t[k]]) := by
  show rf w t k ++ (brk w k ++ (t.drop k).take 1) = _
  rw [List.drop_eq_getElem_cons h]
  rfl
end Go.Proofs.YtfpphhbpoaobfaaGreatDoor.LdMath

namespace Go.Proofs.YtfpphhbpoaobfaaGreatDoor
namespace Rd
open LdMath
set_option linter.unusedVariables false
set_option maxRecDepth 100000

/-- The physical lines of one line, folded. -/
def Blk (n : Nat) (T : List UInt8) (Q : List (Nat × List UInt8)) : Prop := ∃ q0 Q', Q = (n, q0) :: Q' ∧ goes q0 = false ∧ 13 ∉ q0 ∧ (∀ q ∈ Q', goes q.2 = true ∧ 13 ∉ q.2) ∧ (Q' ≠ [] → q0 ≠ []) ∧ q0 ++ Q'.flatMap (fun q => q.2.tail) = T
theorem goes_ne {x : List UInt8} (h : goes x = true) : x ≠ [] := by
  intro e
  rw [e] at h
  exact absurd h (by decide)
theorem ferr_goes : ∀ (Q : List (Nat × List UInt8)) (a : List UInt8) (R : List (Nat × List UInt8)), a ≠ [] → (∀ q ∈ Q, goes q.2 = true ∧ 13 ∉ q.2) → ferr a (Q ++ R) = ferr (lastA a Q) R
  | [], a, R, _, _ => rfl
  | x :: Q, a, R, ha, h => by
    have hx := h x List.mem_cons_self
    have hf : flt a x.2 = none := by
      unfold flt
      rw [if_neg (by simpa using hx.2)]
      have : a.isEmpty = false := by cases a with | nil => exact absurd rfl ha | cons _ _ => rfl
      rw [this]
      simp
    rw [List.cons_append, ferr, hf, lastA_cons]
    exact ferr_goes Q x.2 R (goes_ne hx.1) (fun q hq => h q (List.mem_cons_of_mem _ hq))
theorem Blk.ferr {n : Nat} {T : List UInt8} {Q : List (Nat × List UInt8)} (h : Blk n T Q) (a : List UInt8) (R : List (Nat × List UInt8)) : ∃ b, LdMath.ferr a (Q ++ R) = LdMath.ferr b R := by
  obtain ⟨q0, Q', rfl, h1, h2, h3, h4, _⟩ := h
  rw [List.cons_append, LdMath.ferr, flt_no a q0 h2 h1]
  by_cases hq : Q' = []
  · subst hq
    exact ⟨q0, rfl⟩
  · exact ⟨_, ferr_goes Q' q0 R (h4 hq) h3⟩
theorem fold_goes : ∀ (Q : List (Nat × List UInt8)) (L : List (Nat × List UInt8)) (n : Nat) (t : List UInt8), (∀ q ∈ Q, goes q.2 = true) → Q.foldl stepJ (L ++ [(n, t)]) = L ++ [(n, t ++ Q.flatMap (fun q => q.2.tail))]
  | [], L, n, t, _ => by simp
  | x :: Q, L, n, t, h => by
    have hx := h x List.mem_cons_self
    have e : stepJ (L ++ [(n, t)]) x = L ++ [(n, t ++ x.2.tail)] := by
      unfold stepJ
      rw [if_pos hx, addLast_snoc]
    rw [List.foldl_cons, e, fold_goes Q L n _ (fun q hq => h q (List.mem_cons_of_mem _ hq)), List.flatMap_cons, List.append_assoc]
theorem Blk.join {n : Nat} {T : List UInt8} {Q : List (Nat × List UInt8)} (h : Blk n T Q) (L : List (Nat × List UInt8)) : Q.foldl stepJ L = L ++ [(n, T)] := by
  obtain ⟨q0, Q', rfl, h1, h2, h3, h4, h5⟩ := h
  have e : stepJ L (n, q0) = L ++ [(n, q0)] := by unfold stepJ; rw [if_neg (by rw [h1]; decide)]
  rw [List.foldl_cons, e, fold_goes Q' L n q0 (fun q hq => (h3 q hq).1), h5]
/-- How far a folded line is read. -/
def FI (w n : Nat) (T : List UInt8) (k : Nat) : Prop := ∃ P A, (∀ X, phR n [] (rf w T k ++ X) = P ++ phR (n + P.length) A X) ∧ ((P = [] ∧ A = T.take k) ∨ (∃ p0 P', P = (n, p0) :: P' ∧ p0 ≠ [] ∧ goes p0 = false ∧ 13 ∉ p0 ∧ (∀ q ∈ P', goes q.2 = true ∧ 13 ∉ q.2) ∧ goes A = true ∧ 13 ∉ A ∧ p0 ++ P'.flatMap (fun q => q.2.tail) ++ A.tail = T.take k))
theorem phR_one (n : Nat) (A X : List UInt8) (c : UInt8) (h : c ≠ 10) : phR n A (c :: X) = phR n (A ++ [c]) X := by rw [phR, if_neg h]
theorem goes_take (T : List UInt8) (k : Nat) (h : goes T = false) : goes (T.take k) = false := by
  cases T with
  | nil => simp [goes]
  | cons c T => cases k with
    | zero => rfl
    | succ k => exact h
theorem goes_app {A B : List UInt8} (h : goes A = true) : goes (A ++ B) = true := by
  cases A with
  | nil => exact absurd h (by decide)
  | cons c A => exact h
theorem fi_all (w n : Nat) (hw : 2 ≤ w) (T : List UInt8) (hg : goes T = false) (h10 : 10 ∉ T) (h13 : 13 ∉ T) : ∀ k, k ≤ T.length → FI w n T k
  | 0, _ => ⟨[], [], fun X => rfl, .inl ⟨rfl, rfl⟩⟩
  | k + 1, hk => by
    have hkl : k < T.length := by omega
    obtain ⟨P, A, e, hA⟩ := fi_all w n hw T hg h10 h13 k (by omega)
    have hc : T[k] ≠ 10 := fun e => h10 (e ▸ List.getElem_mem hkl)
    have hc' : T[k] ≠ 13 := fun e => h13 (e ▸ List.getElem_mem hkl)
    have htk : T.take (k + 1) = T.take k ++ [T[k]] := List.take_succ_eq_append_getElem hkl
    have hAn : 13 ∉ A := by
      rcases hA with ⟨_, rfl⟩ | ⟨_, _, _, _, _, _, _, _, h, _⟩
      · exact fun h => h13 (List.mem_of_mem_take h)
      · exact h
    by_cases hb : w ≤ k ∧ (k - w) % (w - 1) = 0
    · have hbr : brk w k = [10, 32] := by unfold brk; rw [if_pos hb]
      refine ⟨P ++ [(n + P.length, A)], [32, T[k]], fun X => ?_, .inr ?_⟩
      · rw [rf_snoc w T k hkl, hbr, List.append_assoc, e]
        show P ++ phR (n + P.length) A (10 :: 32 :: T[k] :: X) = _
        rw [phR, if_pos rfl, trim_no A hAn, phR_one _ _ _ _ (by decide), phR_one _ _ _ _ hc]
        simp [Nat.add_assoc]
      · have g32 : goes [32, T[k]] = true := rfl
        have n32 : 13 ∉ [32, T[k]] := by
          intro h
          rcases List.mem_cons.1 h with h | h
          · exact absurd h (by decide)
          · exact hc' (List.mem_singleton.1 h).symm
        rcases hA with ⟨rfl, rfl⟩ | ⟨p0, P', rfl, q1, q2, q3, q4, q5, q6, q7⟩
        · refine ⟨T.take k, [], by simp, ?_, goes_take T k hg, hAn, fun q hq => by simp at hq, g32, n32, ?_⟩
          · intro h0
            have := congrArg List.length h0
            rw [List.length_take, List.length_nil] at this
            omega
          · rw [htk]; simp
        · refine ⟨p0, P' ++ [(n + ((n, p0) :: P').length, A)], by simp, q1, q2, q3, ?_, g32, n32, ?_⟩
          · intro q hq
            rcases List.mem_append.1 hq with hq | hq
            · exact q4 q hq
            · have : q = (n + ((n, p0) :: P').length, A) := by simpa using hq
              rw [this]
              exact ⟨q5, q6⟩
          · rw [htk, ← q7]
            simp
    · have hbr : brk w k = [] := by unfold brk; rw [if_neg hb]
      refine ⟨P, A ++ [T[k]], fun X => ?_, ?_⟩
      · rw [rf_snoc w T k hkl, hbr, List.append_assoc, e]
        show P ++ phR (n + P.length) A (T[k] :: X) = _
        rw [phR_one _ _ _ _ hc]
      · rcases hA with ⟨rfl, rfl⟩ | ⟨p0, P', rfl, q1, q2, q3, q4, q5, q6, q7⟩
        · exact .inl ⟨rfl, htk.symm⟩
        · refine .inr ⟨p0, P', rfl, q1, q2, q3, q4, goes_app q5, ?_, ?_⟩
          · intro h
            rcases List.mem_append.1 h with h | h
            · exact q6 h
            · exact hc' (List.mem_singleton.1 h).symm
          · rw [htk, ← q7]
            cases A with
            | nil => exact absurd q5 (by decide)
            | cons c A => simp
theorem fld_blk (w n : Nat) (hw : 2 ≤ w) (T : List UInt8) (hg : goes T = false) (h10 : 10 ∉ T) (h13 : 13 ∉ T) : ∃ Q, Blk n T Q ∧ ∀ X, phR n [] (fld w T ++ X) = Q ++ phR (n + Q.length) [] X := by
  obtain ⟨P, A, e, hA⟩ := fi_all w n hw T hg h10 h13 T.length (Nat.le_refl _)
  rw [List.take_length] at hA
  have hAn : 13 ∉ A := by
    rcases hA with ⟨_, rfl⟩ | ⟨_, _, _, _, _, _, _, _, h, _⟩
    · exact h13
    · exact h
  refine ⟨P ++ [(n + P.length, A)], ?_, fun X => ?_⟩
  · rcases hA with ⟨rfl, rfl⟩ | ⟨p0, P', rfl, q1, q2, q3, q4, q5, q6, q7⟩
    · exact ⟨A, [], by simp, hg, hAn, fun q hq => by simp at hq, fun h => absurd rfl h, by simp⟩
    · refine ⟨p0, P' ++ [(n + ((n, p0) :: P').length, A)], by simp, q2, q3, ?_, fun _ => q1, ?_⟩
      · intro q hq
        rcases List.mem_append.1 hq with hq | hq
        · exact q4 q hq
        · have : q = (n + ((n, p0) :: P').length, A) := by simpa using hq
          rw [this]
          exact ⟨q5, q6⟩
      · rw [← q7]
        simp
  · unfold fld
    rw [List.append_assoc, e]
    show P ++ phR (n + P.length) A (10 :: X) = _
    rw [phR, if_pos rfl, trim_no A hAn]
    simp [Nat.add_assoc]
/-- Lines folded: they are read without a fault, and joined they are the lines that were. -/
theorem flds_read (w : Nat) (hw : 2 ≤ w) : ∀ (L : List (Nat × List UInt8)) (n : Nat) (a : List UInt8), (∀ p ∈ L, goes p.2 = false ∧ 10 ∉ p.2 ∧ 13 ∉ p.2) → ferr a (phR n [] (flds w L)) = none ∧ ∃ M, M.map (·.2) = L.map (·.2) ∧ ∀ pre, (phR n [] (flds w L)).foldl stepJ pre = pre ++ M
  | [], n, a, _ => ⟨rfl, [], rfl, fun pre => by simp [flds, phR]⟩
  | p :: L, n, a, h => by
    obtain ⟨g, h10, h13⟩ := h p List.mem_cons_self
    obtain ⟨Q, hQ, e⟩ := fld_blk w n hw p.2 g h10 h13
    have e0 : flds w (p :: L) = fld w p.2 ++ flds w L := rfl
    rw [e0, e]
    obtain ⟨b, hb⟩ := hQ.ferr a (phR (n + Q.length) [] (flds w L))
    obtain ⟨i1, M, i2, i3⟩ := flds_read w hw L (n + Q.length) b (fun q hq => h q (List.mem_cons_of_mem _ hq))
    refine ⟨by rw [hb]; exact i1, (n, p.2) :: M, by simp [i2], fun pre => ?_⟩
    rw [List.foldl_append, hQ.join pre, i3, List.append_assoc]
    rfl
theorem flds_texts (w : Nat) : ∀ (L M : List (Nat × List UInt8)), M.map (·.2) = L.map (·.2) → flds w M = flds w L
  | [], [], _ => rfl
  | [], _ :: _, h => by simp at h
  | _ :: _, [], h => by simp at h
  | p :: L, q :: M, h => by
    simp only [List.map_cons, List.cons.injEq] at h
    show fld w q.2 ++ flds w M = fld w p.2 ++ flds w L
    rw [h.1, flds_texts w L M h.2]
end Rd
end Go.Proofs.YtfpphhbpoaobfaaGreatDoor

namespace Go.Proofs.YtfpphhbpoaobfaaGreatDoor
namespace Rd
open LdMath
set_option linter.unusedVariables false
set_option maxRecDepth 100000

theorem trim_mem {l : List UInt8} {c : UInt8} (h : c ∈ trimCR l) : c ∈ l := by
  unfold trimCR at h
  split at h
  · exact List.dropLast_subset _ h
  · exact h
theorem phR_ten : ∀ (l : List UInt8) (n : Nat) (acc : List UInt8), 10 ∉ acc → ∀ p ∈ phR n acc l, 10 ∉ p.2
  | [], n, acc, ha, p, hp => by
    rw [phR] at hp
    split at hp
    · simp at hp
    · have : p = (n, acc) := by simpa using hp
      rw [this]
      exact ha
  | c :: l, n, acc, ha, p, hp => by
    rw [phR] at hp
    split at hp
    · rcases List.mem_cons.1 hp with rfl | hp
      · exact fun h => ha (trim_mem h)
      · exact phR_ten l (n + 1) [] (by simp) p hp
    · rename_i hc
      refine phR_ten l n _ ?_ p hp
      intro h
      rcases List.mem_append.1 h with h | h
      · exact ha h
      · exact hc (List.mem_singleton.1 h).symm
theorem phys_ten (b : List UInt8) : ∀ p ∈ phys b, 10 ∉ p.2 := by rw [phys_eq]; exact phR_ten b 1 [] (by simp)
/-- What joined lines are like. -/
theorem join_form : ∀ (l : List (Nat × List UInt8)), ferr [] l = none → (∀ p ∈ l, 10 ∉ p.2) → (∀ p ∈ joinS l, goes p.2 = false ∧ 10 ∉ p.2 ∧ 13 ∉ p.2) ∧ ∀ L n, joinS l = L ++ [(n, [])] → lastA [] l = [] := by
  intro l
  induction l using snocInd with
  | nil => intro _ _; exact ⟨fun p hp => by simp [joinS_nil] at hp, fun L n h => rfl⟩
  | append_singleton pre x ih =>
    intro hf h10
    obtain ⟨hf0, hx⟩ := ferr_front x pre [] hf
    obtain ⟨i1, i2⟩ := ih hf0 (fun p hp => h10 p (List.mem_append_left _ hp))
    have hx10 : 10 ∉ x.2 := h10 x (by simp)
    obtain ⟨k1, k2⟩ := flt_ok hx
    have hx13 : 13 ∉ x.2 := by simpa using k1
    cases hg : goes x.2 with
    | false =>
      rw [joinS_new pre x hg]
      refine ⟨fun p hp => ?_, fun L n h => ?_⟩
      · rcases List.mem_append.1 hp with hp | hp
        · exact i1 p hp
        · rw [List.mem_singleton.1 hp]
          exact ⟨hg, hx10, hx13⟩
      · have h2 := congrArg List.getLast? h
        simp at h2
        rw [lastA_snoc, h2]
    | true =>
      obtain ⟨L0, m, t, e⟩ : ∃ L0 m t, joinS pre = L0 ++ [(m, t)] := by
        obtain ⟨L0, m, t, e⟩ := joinS_goes pre x.2 hf0 hx hg
        first | exact ⟨L0, m, t, e⟩ | exact ⟨L0, m, t, e.1⟩
      have ht : t ≠ [] := by
        intro h0
        subst h0
        rw [i2 L0 m e, hg] at k2
        exact absurd k2 (by decide)
      rw [joinS_on pre x hg, e, addLast_snoc]
      have it := i1 (m, t) (by rw [e]; simp)
      refine ⟨fun p hp => ?_, fun L n h => ?_⟩
      · rcases List.mem_append.1 hp with hp | hp
        · exact i1 p (by rw [e]; exact List.mem_append_left _ hp)
        · rw [List.mem_singleton.1 hp]
          refine ⟨?_, ?_, ?_⟩
          · cases t with
            | nil => exact absurd rfl ht
            | cons c t => exact it.1
          · intro h
            rcases List.mem_append.1 h with h | h
            · exact it.2.1 h
            · exact hx10 (List.mem_of_mem_tail h)
          · intro h
            rcases List.mem_append.1 h with h | h
            · exact it.2.2 h
            · exact hx13 (List.mem_of_mem_tail h)
      · have h2 := congrArg List.getLast? h
        simp at h2
        exact absurd h2.2.1 ht
/-- The look over a folded text: no run is longer than w, and a line that goes on is full. -/
def chk (w : Nat) : Nat → List UInt8 → Prop
  | _, [] => True
  | r, c :: l => if c = 10 then (l.head? = some 32 → r = w) ∧ chk w 0 l else r + 1 ≤ w ∧ chk w (r + 1) l
def run (w k : Nat) : Nat := if k ≤ w then k else (k - w - 1) % (w - 1) + 2
theorem mod_pred (a m : Nat) (hm : 1 ≤ m) (ha : 1 ≤ a) : (a % m = 0 → (a - 1) % m = m - 1) ∧ (a % m ≠ 0 → (a - 1) % m = a % m - 1) := by
  have h1 := Nat.div_add_mod a m
  have h2 := Nat.mod_lt a (show 0 < m by omega)
  constructor
  · intro h0
    have hq : 1 ≤ a / m := by
      rcases Nat.eq_zero_or_pos (a / m) with h | h
      · rw [h, h0] at h1; simp at h1; omega
      · exact h
    have e : a - 1 = m * (a / m - 1) + (m - 1) := by
      have : m * (a / m - 1) = m * (a / m) - m := by rw [Nat.mul_sub, Nat.mul_one]
      have h3 : m ≤ m * (a / m) := Nat.le_mul_of_pos_right m hq
      omega
    rw [e, Nat.mul_add_mod, Nat.mod_eq_of_lt (by omega)]
  · intro h0
    have e : a - 1 = m * (a / m) + (a % m - 1) := by omega
    rw [e, Nat.mul_add_mod, Nat.mod_eq_of_lt (by omega)]
theorem chk_rf (w : Nat) (hw : 2 ≤ w) (T : List UInt8) (h10 : 10 ∉ T) : ∀ k, k ≤ T.length → ∀ X, chk w (run w k) X → chk w 0 (rf w T k ++ X)
  | 0, _, X, h => by
    have e : run w 0 = 0 := by unfold run; rw [if_pos (by omega)]
    rw [e] at h
    exact h
  | k + 1, hk, X, h => by
    have hkl : k < T.length := by omega
    have hc : T[k] ≠ 10 := fun e => h10 (e ▸ List.getElem_mem hkl)
    rw [rf_snoc w T k hkl, List.append_assoc]
    refine chk_rf w hw T h10 k (by omega) _ ?_
    by_cases hb : w ≤ k ∧ (k - w) % (w - 1) = 0
    · have hbr : brk w k = [10, 32] := by unfold brk; rw [if_pos hb]
      have e1 : run w k = w := by
        unfold run
        split
        · omega
        · rw [(mod_pred (k - w) (w - 1) (by omega) (by omega)).1 hb.2]; omega
      have e2 : run w (k + 1) = 2 := by
        unfold run
        rw [if_neg (by omega)]
        have : k + 1 - w - 1 = k - w := by omega
        rw [this, hb.2]
      rw [hbr, e1]
      show chk w w (10 :: 32 :: T[k] :: X)
      rw [chk, if_pos rfl]
      refine ⟨fun _ => rfl, ?_⟩
      rw [chk, if_neg (by decide)]
      refine ⟨by omega, ?_⟩
      rw [chk, if_neg hc]
      refine ⟨by omega, ?_⟩
      rw [e2] at h
      exact h
    · have hbr : brk w k = [] := by unfold brk; rw [if_neg hb]
      have e1 : run w k + 1 = run w (k + 1) ∧ run w k + 1 ≤ w := by
        unfold run
        by_cases h1 : k < w
        · rw [if_pos (by omega), if_pos (by omega)]; omega
        · have hm : (k - w) % (w - 1) ≠ 0 := fun h => hb ⟨by omega, h⟩
          have hkw : k ≠ w := by
            intro e
            rw [e, Nat.sub_self, Nat.zero_mod] at hm
            exact hm rfl
          have h2 := (mod_pred (k - w) (w - 1) (by omega) (by omega)).2 hm
          have h3 := Nat.mod_lt (k - w) (show 0 < w - 1 by omega)
          have e3 : k + 1 - w - 1 = k - w := by omega
          rw [if_neg (by omega), if_neg (by omega), e3, h2]
          omega
      rw [hbr]
      show chk w (run w k) (T[k] :: X)
      rw [chk, if_neg hc]
      refine ⟨e1.2, ?_⟩
      rw [e1.1]
      exact h
theorem flds_head (w : Nat) (hw : 2 ≤ w) (L : List (Nat × List UInt8)) (h : ∀ p ∈ L, goes p.2 = false) : (flds w L).head? ≠ some 32 := by
  cases L with
  | nil => simp [flds]
  | cons p L =>
    have hp := h p List.mem_cons_self
    have e0 : flds w (p :: L) = fld w p.2 ++ flds w L := rfl
    rw [e0]
    unfold fld
    cases ht : p.2 with
    | nil => simp [rf]
    | cons c t =>
      have h1 : rf w (c :: t) ((c :: t).length) = c :: (rf w (c :: t) (c :: t).length).tail := by
        have key : ∀ k, 1 ≤ k → (rf w (c :: t) k).head? = some c := by
          intro k
          induction k with
          | zero => intro h; omega
          | succ k ih =>
            intro _
            show (rf w (c :: t) k ++ (brk w k ++ ((c :: t).drop k).take 1)).head? = some c
            cases k with
            | zero =>
              have hb : brk w 0 = [] := by unfold brk; rw [if_neg (by omega)]
              rw [hb]
              rfl
            | succ k =>
              have := ih (by omega)
              rw [List.head?_append, this]
              rfl
        have h2 := key (c :: t).length (by simp)
        cases hr : rf w (c :: t) (c :: t).length with
        | nil => rw [hr] at h2; cases h2
        | cons d r =>
          rw [hr] at h2
          simp at h2
          rw [h2]
          rfl
      rw [h1]
      rw [ht] at hp
      intro e
      have e' : c = 32 := by simpa using e
      rw [e'] at hp
      exact absurd hp (by simp [goes])
theorem chk_flds (w : Nat) (hw : 2 ≤ w) : ∀ (L : List (Nat × List UInt8)), (∀ p ∈ L, goes p.2 = false ∧ 10 ∉ p.2) → chk w 0 (flds w L)
  | [], _ => trivial
  | p :: L, h => by
    have e0 : flds w (p :: L) = fld w p.2 ++ flds w L := rfl
    have hp := h p List.mem_cons_self
    have hL : ∀ q ∈ L, goes q.2 = false ∧ 10 ∉ q.2 := fun q hq => h q (List.mem_cons_of_mem _ hq)
    rw [e0]
    unfold fld
    rw [List.append_assoc]
    refine chk_rf w hw p.2 hp.2 _ (Nat.le_refl _) _ ?_
    show chk w _ (10 :: flds w L)
    rw [chk, if_pos rfl]
    exact ⟨fun e => absurd e (flds_head w hw L (fun q hq => (hL q hq).1)), chk_flds w hw L hL⟩
theorem flds_last (w : Nat) (L : List (Nat × List UInt8)) (h : L ≠ []) : (flds w L).getLast? = some 10 := by
  rcases List.eq_nil_or_concat L with h0 | ⟨L0, p, h0⟩
  · exact absurd h0 h
  · rw [h0, List.concat_eq_append, flds_snoc]
    unfold fld
    rw [← List.append_assoc, List.getLast?_concat]
/-- Reading does not look at the lines' numbers. -/
theorem takeF_num (st st' : St) (t : List UInt8) (h : st.1 = st'.1) : takeF st t = takeF st' t := by unfold takeF; rw [h]
def SE (st st' : St) : Prop := st.1 = st'.1 ∧ st.2.2 = st'.2.2
theorem takeS_num (st st' : St) (n n' : Nat) (t : List UInt8) (h : SE st st') : SE (takeS st n t) (takeS st' n' t) := by
  obtain ⟨h1, h2⟩ := h
  unfold SE takeS
  rw [← h1, ← h2]
  split
  · exact ⟨rfl, h2 ▸ rfl⟩
  · split
    · exact ⟨rfl, rfl⟩
    · exact ⟨rfl, rfl⟩
theorem fin_num (e e' : Nat) (st st' : St) (h : SE st st') : (fin e st).1.map (·.2) = (fin e' st').1.map (·.2) ∧ (fin e st).2.1 = (fin e' st').2.1 := by
  obtain ⟨h1, h2⟩ := h
  unfold fin
  rw [← h1]
  repeat' split
  all_goals simp [h2]
theorem rdL_num (e e' : Nat) : ∀ (l l' : List (Nat × List UInt8)) (st st' : St), l'.map (·.2) = l.map (·.2) → SE st st' → (rdL e st l).1.map (·.2) = (rdL e' st' l').1.map (·.2) ∧ (rdL e st l).2.1 = (rdL e' st' l').2.1
  | [], [], st, st', _, h => by rw [rdL, rdL]; exact fin_num e e' st st' h
  | [], _ :: _, _, _, h, _ => by simp at h
  | _ :: _, [], _, _, h, _ => by simp at h
  | (n, t) :: l, (n', t') :: l', st, st', hl, h => by
    simp only [List.map_cons, List.cons.injEq] at hl
    obtain ⟨ht, hl⟩ := hl
    have ht' : t' = t := ht
    subst ht'
    rw [rdL, rdL, ← h.1, ← takeF_num st st' t' h.1]
    split
    · exact rdL_num e e' l l' st st' hl h
    · split
      · split
        · exact rdL_num e e' l l' _ _ hl (takeS_num st st' n n' t' h)
        · exact ⟨rfl, rfl⟩
      · split
        · exact fin_num e e' st st' h
        · split
          · have ih := rdL_num e e' l l' (2, st.2) (2, st'.2) hl ⟨rfl, h.2⟩
            refine ⟨?_, ih.2⟩
            simp only [List.map_cons]
            rw [ih.1, h.2]
          · exact rdL_num e e' l l' st st' hl h
end Rd
end Go.Proofs.YtfpphhbpoaobfaaGreatDoor

namespace Go.Proofs.YtfpphhbpoaobfaaGreatDoor
namespace Rd
open LdMath
set_option linter.unusedVariables false
set_option maxRecDepth 100000

/-- How long the first physical line is, with its end. -/
def ln1 : List UInt8 → Nat
  | [] => 0
  | c :: l => if c = 10 then 1 else ln1 l + 1
/-- Where the physical line begins that stands behind so many. -/
def sta : Nat → List UInt8 → Nat
  | 0, _ => 0
  | k + 1, l => ln1 l + sta k (l.drop (ln1 l))
theorem ln1_le : ∀ l : List UInt8, ln1 l ≤ l.length
  | [] => Nat.le_refl _
  | c :: l => by
    have := ln1_le l
    rw [ln1]
    split <;> simp only [List.length_cons] <;> omega
theorem sta_le : ∀ (k : Nat) (l : List UInt8), sta k l ≤ l.length
  | 0, l => Nat.zero_le _
  | k + 1, l => by
    have h1 := ln1_le l
    have h2 := sta_le k (l.drop (ln1 l))
    rw [List.length_drop] at h2
    rw [sta]
    omega
theorem ln1_has : ∀ l : List UInt8, 10 ∈ l → ∃ p, 10 ∉ p ∧ l.take (ln1 l) = p ++ [10]
  | [], h => by simp at h
  | c :: l, h => by
    rw [ln1]
    by_cases hc : c = 10
    · rw [if_pos hc]
      exact ⟨[], by simp, by simp [hc]⟩
    · rw [if_neg hc]
      have h' : 10 ∈ l := by
        rcases List.mem_cons.1 h with h | h
        · exact absurd h.symm hc
        · exact h
      obtain ⟨p, h1, h2⟩ := ln1_has l h'
      refine ⟨c :: p, ?_, by rw [List.take_succ_cons, h2]; rfl⟩
      intro h3
      rcases List.mem_cons.1 h3 with h3 | h3
      · exact hc h3.symm
      · exact h1 h3
theorem sta_phR : ∀ (k : Nat) (l : List UInt8) (m : Nat), k < (phR m [] l).length → ∃ A : List (Nat × List UInt8), A.length = k ∧ ∀ X, phR m [] (l.take (sta k l) ++ X) = A ++ phR (m + k) [] X
  | 0, l, m, _ => ⟨[], rfl, fun X => by simp [sta]⟩
  | k + 1, l, m, h => by
    have h10 : 10 ∈ l := Classical.byContradiction fun h0 => by
      rw [phR_no l m [] h0] at h
      split at h <;> simp at h
    obtain ⟨p, hp, e⟩ := ln1_has l h10
    have hall : ∀ X, phR m [] (l.take (ln1 l) ++ X) = (m, trimCR p) :: phR (m + 1) [] X := fun X => by
      rw [e, List.append_assoc]
      have := phR_line p X m [] hp
      simpa using this
    have h2 : phR m [] l = (m, trimCR p) :: phR (m + 1) [] (l.drop (ln1 l)) := by
      have := hall (l.drop (ln1 l))
      rwa [List.take_append_drop] at this
    obtain ⟨A, hA, hX⟩ := sta_phR k (l.drop (ln1 l)) (m + 1) (by rw [h2] at h; simpa using h)
    refine ⟨(m, trimCR p) :: A, by simp [hA], fun X => ?_⟩
    have e3 : l.take (sta (k + 1) l) = l.take (ln1 l) ++ (l.drop (ln1 l)).take (sta k (l.drop (ln1 l))) := by
      rw [sta, List.take_add]
    rw [e3, List.append_assoc, hall, hX, show m + 1 + k = m + (k + 1) from by omega]
    rfl
/-- A line's number turned. -/
def gp (g : Nat → Nat) (p : Nat × List UInt8) : Nat × List UInt8 := (g p.1, p.2)
theorem phR_sh : ∀ (l : List UInt8) (n : Nat) (acc : List UInt8), phR (n + 1) acc l = (phR n acc l).map (gp (· + 1))
  | [], n, acc => by rw [phR, phR]; split <;> rfl
  | c :: l, n, acc => by
    rw [phR, phR]
    split
    · rw [phR_sh l (n + 1) []]; rfl
    · exact phR_sh l n _
theorem phR_fst : ∀ (l : List UInt8) (n : Nat) (acc : List UInt8), (phR n acc l).map (·.1) = List.range' n (phR n acc l).length
  | [], n, acc => by rw [phR]; split <;> rfl
  | c :: l, n, acc => by
    rw [phR]
    split
    · rw [List.map_cons, phR_fst l (n + 1) [], List.length_cons, List.range'_succ]
    · exact phR_fst l n _
theorem stepJ_pre (pre M : List (Nat × List UInt8)) (x : Nat × List UInt8) (h : M ≠ []) : stepJ (pre ++ M) x = pre ++ stepJ M x ∧ stepJ M x ≠ [] := by
  rcases List.eq_nil_or_concat M with h0 | ⟨M0, ⟨n, t⟩, h0⟩
  · exact absurd h0 h
  · rw [List.concat_eq_append] at h0
    subst h0
    unfold stepJ
    split
    · rw [← List.append_assoc, addLast_snoc, addLast_snoc, List.append_assoc]
      exact ⟨rfl, by simp⟩
    · exact ⟨by simp, by simp⟩
theorem fold_pre : ∀ (X pre M : List (Nat × List UInt8)), M ≠ [] → X.foldl stepJ (pre ++ M) = pre ++ X.foldl stepJ M
  | [], pre, M, _ => rfl
  | x :: X, pre, M, h => by
    rw [List.foldl_cons, List.foldl_cons, (stepJ_pre pre M x h).1]
    exact fold_pre X pre _ (stepJ_pre pre M x h).2
theorem joinS_cut (A B : List (Nat × List UInt8)) (b : Nat × List UInt8) (hb : goes b.2 = false) : joinS (A ++ b :: B) = joinS A ++ joinS (b :: B) := by
  have e : ∀ M, stepJ M b = M ++ [b] := fun M => by unfold stepJ; rw [if_neg (by rw [hb]; decide)]
  unfold joinS
  rw [List.foldl_append, List.foldl_cons, List.foldl_cons, e, e, List.nil_append]
  exact fold_pre B _ [b] (by simp)
theorem stepJ_g (g : Nat → Nat) (M : List (Nat × List UInt8)) (x : Nat × List UInt8) : stepJ (M.map (gp g)) (gp g x) = (stepJ M x).map (gp g) := by
  have hx : (gp g x).2 = x.2 := rfl
  unfold stepJ
  rw [hx]
  split
  · rcases List.eq_nil_or_concat M with h0 | ⟨M0, ⟨n, t⟩, h0⟩
    · subst h0; rfl
    · rw [List.concat_eq_append] at h0
      subst h0
      rw [addLast_snoc, List.map_append, List.map_append]
      exact addLast_snoc (M0.map (gp g)) (g n) t x.2.tail
  · rw [List.map_append]; rfl
theorem fold_g (g : Nat → Nat) : ∀ (X M : List (Nat × List UInt8)), (X.map (gp g)).foldl stepJ (M.map (gp g)) = (X.foldl stepJ M).map (gp g)
  | [], M => rfl
  | x :: X, M => by rw [List.map_cons, List.foldl_cons, List.foldl_cons, stepJ_g, fold_g g X]
theorem joinS_g (g : Nat → Nat) (X : List (Nat × List UInt8)) : joinS (X.map (gp g)) = (joinS X).map (gp g) := fold_g g X []
theorem stepJ_sub (M : List (Nat × List UInt8)) (x : Nat × List UInt8) : List.Sublist ((stepJ M x).map (·.1)) (M.map (·.1) ++ [x.1]) := by
  unfold stepJ
  split
  · rcases List.eq_nil_or_concat M with h0 | ⟨M0, ⟨n, t⟩, h0⟩
    · subst h0; exact List.nil_sublist _
    · rw [List.concat_eq_append] at h0
      subst h0
      rw [addLast_snoc]
      simp only [List.map_append, List.map_cons, List.map_nil]
      exact List.sublist_append_left _ _
  · rw [List.map_append]
    exact List.Sublist.refl _
theorem fold_sub : ∀ (X M : List (Nat × List UInt8)), List.Sublist ((X.foldl stepJ M).map (·.1)) (M.map (·.1) ++ X.map (·.1))
  | [], M => by simp
  | x :: X, M => by
    rw [List.foldl_cons]
    refine (fold_sub X _).trans ?_
    have := (stepJ_sub M x).append (List.Sublist.refl (X.map (·.1)))
    simpa using this
theorem joinS_sub (X : List (Nat × List UInt8)) : List.Sublist ((joinS X).map (·.1)) (X.map (·.1)) := by
  have := fold_sub X []
  simpa [joinS] using this
/-- A logical line begins where a physical one does not go on. -/
theorem fold_from : ∀ (X M : List (Nat × List UInt8)) (p : Nat × List UInt8), p ∈ X.foldl stepJ M → (∃ q ∈ M, q.1 = p.1) ∨ ∃ x ∈ X, x.1 = p.1 ∧ goes x.2 = false
  | [], M, p, h => .inl ⟨p, h, rfl⟩
  | x :: X, M, p, h => by
    rw [List.foldl_cons] at h
    rcases fold_from X _ p h with ⟨q, hq, e⟩ | ⟨y, hy, e⟩
    · unfold stepJ at hq
      split at hq
      · rcases List.eq_nil_or_concat M with h0 | ⟨M0, ⟨n, t⟩, h0⟩
        · subst h0
          simp [addLast] at hq
        · rw [List.concat_eq_append] at h0
          subst h0
          rw [addLast_snoc] at hq
          rcases List.mem_append.1 hq with hq | hq
          · exact .inl ⟨q, List.mem_append_left _ hq, e⟩
          · rw [List.mem_singleton.1 hq] at e
            exact .inl ⟨(n, t), by simp, e⟩
      · rename_i hg
        rcases List.mem_append.1 hq with hq | hq
        · exact .inl ⟨q, hq, e⟩
        · rw [List.mem_singleton.1 hq] at e
          exact .inr ⟨x, List.mem_cons_self, e, by simpa using hg⟩
    · exact .inr ⟨y, List.mem_cons_of_mem _ hy, e⟩
theorem ferr_left : ∀ (A B : List (Nat × List UInt8)) (a : List UInt8), ferr a (A ++ B) = none → ferr a A = none
  | [], _, _, _ => rfl
  | x :: A, B, a, h => by
    rw [List.cons_append, ferr] at h
    rw [ferr]
    cases hf : flt a x.2 with
    | some e => rw [hf] at h; cases h
    | none => rw [hf] at h; exact ferr_left A B x.2 h
theorem ferr_g (g : Nat → Nat) : ∀ (l : List (Nat × List UInt8)) (a : List UInt8), ferr a l = none → ferr a (l.map (gp g)) = none
  | [], _, _ => rfl
  | x :: l, a, h => by
    have hx : (gp g x).2 = x.2 := rfl
    rw [ferr] at h
    rw [List.map_cons, ferr, hx]
    cases hf : flt a x.2 with
    | some e => rw [hf] at h; cases h
    | none => rw [hf] at h; exact ferr_g g l x.2 h
/-- Reading goes by the numbers as they are. -/
def gS (g : Nat → Nat) (st : St) : St := (st.1, g st.2.1, st.2.2)
def gR (g : Nat → Nat) (R : List Rc × Nat × Nat) : List Rc × Nat × Nat := (R.1.map (fun r => (g r.1, r.2)), R.2.1, g R.2.2)
theorem takeS_g (g : Nat → Nat) (st : St) (n : Nat) (t : List UInt8) : takeS (gS g st) (g n) t = gS g (takeS st n t) := by
  have h1 : (gS g st).1 = st.1 := rfl
  unfold takeS
  rw [h1]
  split
  · rfl
  · split
    · rfl
    · rfl
theorem fin_g (g : Nat → Nat) (g0 : g 0 = 0) (e : Nat) (st : St) : fin (g e) (gS g st) = gR g (fin e st) := by
  have h1 : (gS g st).1 = st.1 := rfl
  unfold fin
  rw [h1]
  repeat' split
  all_goals simp [gR, gS, g0]
theorem rdL_g (g : Nat → Nat) (g0 : g 0 = 0) (e : Nat) : ∀ (l : List (Nat × List UInt8)) (st : St), rdL (g e) (gS g st) (l.map (gp g)) = gR g (rdL e st l)
  | [], st => by rw [List.map_nil, rdL, rdL]; exact fin_g g g0 e st
  | (n, t) :: l, st => by
    have h1 : (gS g st).1 = st.1 := rfl
    have e0 : ((n, t) :: l).map (gp g) = (g n, t) :: l.map (gp g) := rfl
    rw [e0, rdL, rdL, h1, takeF_num (gS g st) st t h1, takeS_g]
    split
    · exact rdL_g g g0 e l st
    · split
      · split
        · exact rdL_g g g0 e l _
        · rfl
      · split
        · exact fin_g g g0 e st
        · split
          · have ih := rdL_g g g0 e l (2, st.2)
            have e2 : ((2, (gS g st).2) : St) = gS g (2, st.2) := rfl
            rw [e2, ih]
            rfl
          · exact rdL_g g g0 e l st
theorem rdL_skip (e m : Nat) (x : List UInt8) (hx : x.head? = some 35) : ∀ (X Y : List (Nat × List UInt8)) (st : St), rdL e st (X ++ (m, x) :: Y) = rdL e st (X ++ Y)
  | [], Y, st => by rw [List.nil_append, List.nil_append, rdL, if_pos hx]
  | (n, t) :: X, Y, st => by
    rw [List.cons_append, List.cons_append, rdL, rdL]
    simp only [rdL_skip e m x hx X Y]
/-- Ahead of the line n there is one more. -/
def up (n x : Nat) : Nat := if n ≤ x then x + 1 else x
/-- A comment put in. -/
def cmt (b c : List UInt8) (n : Nat) : List UInt8 := b.take (sta (n - 1) b) ++ (35 :: c ++ 10 :: b.drop (sta (n - 1) b))
def CmQ (b c : List UInt8) (k n : Nat) : Prop := (1 ≤ n ∧ n ≤ b.length + 1) ∧ ferr [] (phys (cmt b c n)) = none ∧ (joinS (phys (cmt b c n))).length = (joinS (phys b)).length + 1 ∧ (joinS (phys (cmt b c n)))[k]? = some (n, 35 :: c) ∧ rdT (cmt b c n) = gR (up n) (rdT b)
theorem comment_math (b c : List UInt8) (k n : Nat) (hf : ferr [] (phys b) = none) (hk : k < (joinS (phys b)).length) (hn : (joinS (phys b))[k].1 = n) (h10 : 10 ∉ c) (h13 : 13 ∉ c) : CmQ b c k n := by
  obtain ⟨P, hP⟩ : ∃ P, phys b = P := ⟨_, rfl⟩
  rw [hP] at hf
  have hPe : phR 1 [] b = P := by rw [← hP, phys_eq]
  have hfst : P.map (·.1) = List.range' 1 P.length := by rw [← hPe]; exact phR_fst b 1 []
  have hmem : (joinS P)[k]? = some (joinS (phys b))[k] := by rw [← hP]; exact List.getElem?_eq_getElem hk
  obtain ⟨lk, hlk⟩ : ∃ lk, (joinS (phys b))[k] = lk := ⟨_, rfl⟩
  rw [hlk] at hmem hn
  rw [hP] at hk
  obtain ⟨y, hy, hy1, hy2⟩ : ∃ y ∈ P, y.1 = lk.1 ∧ goes y.2 = false := by
    rcases fold_from P [] lk (List.mem_of_getElem? hmem) with ⟨q, hq, _⟩ | h
    · simp at hq
    · exact h
  rw [hn] at hy1
  obtain ⟨i, hi, hyi⟩ := List.getElem_of_mem hy
  have hi1 : P[i].1 = i + 1 := by
    have h1 : (P.map (·.1))[i]? = some P[i].1 := by rw [List.getElem?_map, List.getElem?_eq_getElem hi]; rfl
    rw [hfst, List.getElem?_range' (by omega)] at h1
    injection h1 with h1
    omega
  have hin : n = i + 1 := by rw [← hi1, hyi, hy1]
  have hPl : P.length ≤ b.length + 1 := by rw [← hP]; exact phys_len b
  obtain ⟨A, hA, hX⟩ := sta_phR i b 1 (by rw [hPe]; exact hi)
  obtain ⟨a0, ha0⟩ : ∃ a0, sta (n - 1) b = a0 := ⟨_, rfl⟩
  have hai : sta i b = a0 := by rw [← ha0, hin]; rfl
  rw [hai] at hX
  obtain ⟨B, hB⟩ : ∃ B, phR (1 + i) [] (b.drop a0) = B := ⟨_, rfl⟩
  have hPAB : P = A ++ B := by rw [← hPe, ← hB, ← hX, List.take_append_drop]
  have h35 : 13 ∉ (35 :: c) := by
    intro h
    rcases List.mem_cons.1 h with h | h
    · exact absurd h (by decide)
    · exact h13 h
  have h35' : 10 ∉ (35 :: c) := by
    intro h
    rcases List.mem_cons.1 h with h | h
    · exact absurd h (by decide)
    · exact h10 h
  have hT : phys (cmt b c n) = A ++ (n, 35 :: c) :: B.map (gp (· + 1)) := by
    unfold cmt
    rw [phys_eq, ha0, hX, phR_line (35 :: c) _ _ [] h35', List.nil_append, trim_no _ h35, phR_sh, hB, show 1 + i = n from by omega]
  obtain ⟨b0, B', hB0⟩ : ∃ b0 B', B = b0 :: B' := by
    cases B with
    | nil => rw [hPAB, List.append_nil, hA] at hi; omega
    | cons b0 B' => exact ⟨b0, B', rfl⟩
  have hb0 : b0 = y := by
    have h1 : P[i]? = some b0 := by rw [hPAB, hB0, List.getElem?_append_right (by omega), hA]; simp
    rw [List.getElem?_eq_getElem hi, hyi] at h1
    injection h1 with h1
    exact h1.symm
  have hg0 : goes b0.2 = false := by rw [hb0]; exact hy2
  have hn0 : b0.1 = n := by rw [hb0]; exact hy1
  have hJ : joinS P = joinS A ++ joinS B := by rw [hPAB, hB0]; exact joinS_cut A B' b0 hg0
  have hJt : joinS (phys (cmt b c n)) = joinS A ++ (n, 35 :: c) :: (joinS B).map (gp (· + 1)) := by
    rw [hT, joinS_cut A _ (n, 35 :: c) rfl]
    have e1 := joinS_cut [(n, 35 :: c)] (B'.map (gp (· + 1))) (gp (· + 1) b0) hg0
    have e2 : (n, 35 :: c) :: B.map (gp (· + 1)) = [(n, 35 :: c)] ++ gp (· + 1) b0 :: B'.map (gp (· + 1)) := by rw [hB0]; rfl
    rw [e2, e1, ← List.map_cons, ← hB0, joinS_g]
    rfl
  have hpw : ((joinS P).map (·.1)).Pairwise (· < ·) := by
    refine List.Pairwise.sublist (joinS_sub P) ?_
    rw [hfst]
    exact List.pairwise_lt_range'
  have hAn : ∀ p ∈ joinS A, p.1 < n := fun p hp => by
    have h1 : p.1 ∈ A.map (·.1) := (joinS_sub A).subset (List.mem_map_of_mem hp)
    have h2 : A.map (·.1) = List.range' 1 i := by
      have h3 := hX []
      have h4 : phR (1 + i) [] [] = [] := rfl
      rw [h4, List.append_nil, List.append_nil] at h3
      have h5 := phR_fst (b.take a0) 1 []
      rw [h3, hA] at h5
      exact h5
    rw [h2, List.mem_range'_1] at h1
    omega
  have hBn : ∀ p ∈ joinS B, n ≤ p.1 := fun p hp => by
    have h1 : p.1 ∈ B.map (·.1) := (joinS_sub B).subset (List.mem_map_of_mem hp)
    have h2 : B.map (·.1) = List.range' (1 + i) B.length := by rw [← hB]; exact phR_fst _ _ _
    rw [h2, List.mem_range'_1] at h1
    omega
  have hkA : k = (joinS A).length := by
    have hge : (joinS A).length ≤ k := Nat.le_of_not_lt fun hlt => by
      rw [hJ, List.getElem?_append_left hlt, List.getElem?_eq_getElem hlt] at hmem
      injection hmem with hmem
      have := hAn _ (List.getElem_mem hlt)
      rw [hmem] at this
      omega
    obtain ⟨q, Q, hq, hq1⟩ : ∃ q Q, joinS B = q :: Q ∧ q.1 = n := by
      have hne : joinS B ≠ [] := by
        intro e
        rw [hJ, e, List.append_nil] at hk
        omega
      cases hj : joinS B with
      | nil => exact absurd hj hne
      | cons q Q =>
        refine ⟨q, Q, rfl, ?_⟩
        have e1 : joinS B = B'.foldl stepJ ([] ++ [b0]) := by
          rw [hB0]
          unfold joinS
          rw [List.foldl_cons]
          have e : stepJ [] b0 = [] ++ [b0] := by unfold stepJ; rw [if_neg (by rw [hg0]; decide)]
          rw [e]
        have hst : ∀ (X : List (Nat × List UInt8)) (M : List (Nat × List UInt8)), M.head?.map (·.1) = some n → (X.foldl stepJ M).head?.map (·.1) = some n := by
          intro X
          induction X with
          | nil => intro M h; exact h
          | cons x X ih =>
            intro M h
            rw [List.foldl_cons]
            refine ih _ ?_
            unfold stepJ
            cases M with
            | nil => simp at h
            | cons m M =>
              split
              · rcases List.eq_nil_or_concat M with h0 | ⟨M0, ⟨n', t'⟩, h0⟩
                · subst h0
                  have := addLast_snoc [] m.1 m.2 x.2.tail
                  rw [show m :: [] = [] ++ [(m.1, m.2)] from rfl, this]
                  simpa using h
                · rw [List.concat_eq_append] at h0
                  subst h0
                  rw [← List.cons_append, addLast_snoc]
                  simpa using h
              · simpa using h
        have h3 := hst B' ([] ++ [b0]) (by simp [hn0])
        rw [← e1, hj] at h3
        simpa using h3
    refine Nat.le_antisymm (Nat.le_of_not_lt fun hlt => ?_) hge
    have hlen : (joinS A).length < (joinS P).length := by omega
    have h1 : ((joinS P).map (·.1))[(joinS A).length]'(by rw [List.length_map]; exact hlen) < ((joinS P).map (·.1))[k]'(by rw [List.length_map]; exact hk) := (List.pairwise_iff_getElem.1 hpw) _ _ _ _ hlt
    rw [List.getElem_map, List.getElem_map] at h1
    have h2 : (joinS P)[(joinS A).length]? = some q := by rw [hJ, hq, List.getElem?_append_right (Nat.le_refl _)]; simp
    rw [List.getElem?_eq_getElem hlen] at h2
    rw [List.getElem?_eq_getElem hk] at hmem
    injection h2 with h2
    injection hmem with hmem
    rw [h2, hmem] at h1
    omega
  have hfA : ferr [] A = none := ferr_left A B [] (by rw [← hPAB]; exact hf)
  have hfB : ferr (lastA [] A) (b0 :: B') = none := by
    rw [hPAB, ferr_app B A [] hfA, hB0] at hf
    exact hf
  have hft : ferr [] (phys (cmt b c n)) = none := by
    rw [hT, ferr_app _ A [] hfA, ferr, flt_no _ (35 :: c) h35 rfl, hB0]
    rw [ferr] at hfB
    cases hfl : flt (lastA [] A) b0.2 with
    | some e => rw [hfl] at hfB; cases hfB
    | none =>
      rw [hfl] at hfB
      have h13b : 13 ∉ b0.2 := by have := (flt_ok hfl).1; simpa using this
      show ferr (35 :: c) (gp (· + 1) b0 :: B'.map (gp (· + 1))) = none
      rw [ferr]
      have hx : (gp (· + 1) b0).2 = b0.2 := rfl
      rw [hx, flt_no _ b0.2 h13b hg0]
      exact ferr_g _ B' b0.2 hfB
  refine ⟨⟨by omega, by omega⟩, hft, ?_, ?_, ?_⟩
  · rw [hJt, hP, hJ]
    simp
    omega
  · rw [hJt, hkA, List.getElem?_append_right (Nat.le_refl _)]
    simp
  · unfold rdT
    rw [hft, hP, hf]
    have g0 : up n 0 = 0 := by unfold up; rw [if_neg (by omega)]
    have hE : (phys (cmt b c n)).length + 1 = up n (P.length + 1) := by
      unfold up
      rw [if_pos (by omega), hT, hPAB]
      simp
      omega
    have hL : joinS A ++ (joinS B).map (gp (· + 1)) = (joinS P).map (gp (up n)) := by
      rw [hJ, List.map_append]
      congr 1
      · refine (List.map_id (joinS A)).symm.trans (List.map_congr_left fun p hp => ?_)
        have := hAn p hp
        show p = gp (up n) p
        unfold gp up
        rw [if_neg (by omega)]
      · refine List.map_congr_left fun p hp => ?_
        have := hBn p hp
        unfold gp up
        rw [if_pos (by omega)]
    show rdL _ st0 _ = gR (up n) (rdL _ st0 _)
    rw [hE, hJt, rdL_skip _ _ _ rfl, hL]
    have hs : st0 = gS (up n) st0 := by unfold gS st0; simp [g0]
    rw [hs, rdL_g (up n) g0, ← hs]
end Rd
end Go.Proofs.YtfpphhbpoaobfaaGreatDoor
