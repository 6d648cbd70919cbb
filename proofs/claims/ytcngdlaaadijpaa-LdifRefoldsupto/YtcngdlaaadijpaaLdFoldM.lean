import Derived.Test.YtcngdlaaadijpaaLdMath
namespace Go.Proofs.Ytcngdlaaadijpaa.LdMath

/-- Is the line broken ahead of its byte k? -/
def brk (w k : Nat) : List UInt8 := if w ≤ k ∧ (k - w) % (w - 1) = 0 then [10, 32] else []
/-- A line's first k bytes, folded at w. -/
def rf (w : Nat) (t : List UInt8) : Nat → List UInt8
  | 0 => []
  | k + 1 => rf w t k ++ (brk w k ++ (t.drop k).take 1)
/-- A line folded at w. -/
def fld (w : Nat) (t : List UInt8) : List UInt8 := rf w t t.length ++ [10]
/-- Lines folded at w. -/
def flds (w : Nat) (L : List (Nat × List UInt8)) : List UInt8 := L.flatMap (fun p => fld w p.2)
theorem flds_snoc (w : Nat) (L : List (Nat × List UInt8)) (p : Nat × List UInt8) : flds w (L ++ [p]) = flds w L ++ fld w p.2 := by simp [flds]
theorem brk_len (w k : Nat) : (brk w k).length ≤ 2 := by unfold brk; split <;> simp
theorem rf_len (w : Nat) (t : List UInt8) : ∀ k, (rf w t k).length ≤ 3 * k
  | 0 => Nat.le_refl _
  | k + 1 => by
    have h1 := rf_len w t k
    have h2 := brk_len w k
    have h3 : ((t.drop k).take 1).length ≤ 1 := by rw [List.length_take]; omega
    show (rf w t k ++ (brk w k ++ (t.drop k).take 1)).length ≤ _
    rw [List.length_append, List.length_append]
    omega
theorem fld_len (w : Nat) (t : List UInt8) : (fld w t).length ≤ 3 * t.length + 1 := by
  have := rf_len w t t.length
  unfold fld
  rw [List.length_append]
  simp
  omega
theorem flds_len (w : Nat) : ∀ (L : List (Nat × List UInt8)), (flds w L).length ≤ 3 * ltot L + L.length
  | [] => Nat.le_refl _
  | p :: L => by
    have h1 := flds_len w L
    have h2 := fld_len w p.2
    have e : flds w (p :: L) = fld w p.2 ++ flds w L := rfl
    have e2 : ltot (p :: L) = p.2.length + ltot L := rfl
    rw [e, List.length_append, e2, List.length_cons]
    omega
theorem ltot_app (a b : List (Nat × List UInt8)) : ltot (a ++ b) = ltot a + ltot b := by simp [ltot]
theorem joinS_ltot : ∀ (l : List (Nat × List UInt8)), ltot (joinS l) ≤ ltot l := by
  intro l
  induction l using snocInd with
  | nil => exact Nat.le_refl _
  | append_singleton pre x ih =>
    rw [ltot_snoc]
    cases hg : goes x.2 with
    | false => rw [joinS_new pre x hg, ltot_snoc]; omega
    | true =>
      rw [joinS_on pre x hg]
      have ht : x.2.tail.length ≤ x.2.length := by simp
      rcases List.eq_nil_or_concat (joinS pre) with h | ⟨L0, p, h⟩
      · rw [h]
        exact Nat.zero_le _
      · rw [List.concat_eq_append] at h
        rw [h] at ih ⊢
        have e : addLast (L0 ++ [p]) x.2.tail = L0 ++ [(p.1, p.2 ++ x.2.tail)] := addLast_snoc L0 p.1 p.2 x.2.tail
        rw [e, ltot_snoc]
        rw [ltot_snoc] at ih
        simp only [List.length_append]
        omega
/-- The first stretch is not broken. -/
theorem rf_front (w : Nat) (t : List UInt8) : ∀ k, k ≤ w → k ≤ t.length → rf w t k = t.take k
  | 0, _, _ => by simp [rf]
  | k + 1, h, hl => by
    have ih := rf_front w t k (by omega) (by omega)
    show rf w t k ++ (brk w k ++ (t.drop k).take 1) = _
    have hb : brk w k = [] := by unfold brk; rw [if_neg (by omega)]
    rw [ih, hb, List.nil_append, List.take_add]
theorem mod_add (a q m : Nat) (hq : q < m) (ha : a % m = 0) : (a + q) % m = q := by
  rw [Nat.add_mod, ha, Nat.zero_add, Nat.mod_mod, Nat.mod_eq_of_lt hq]
/-- A stretch behind a place at which the line is broken. -/
theorem rf_next (w : Nat) (t : List UInt8) (p : Nat) (hw : 2 ≤ w) (hp : w ≤ p) (hm : (p - w) % (w - 1) = 0) : ∀ q, 1 ≤ q → q ≤ w - 1 → p + q ≤ t.length → rf w t (p + q) = rf w t p ++ ([10, 32] ++ (t.drop p).take q)
  | 0, h, _, _ => by omega
  | 1, _, _, _ => by
    show rf w t p ++ (brk w p ++ (t.drop p).take 1) = _
    have hb : brk w p = [10, 32] := by unfold brk; rw [if_pos ⟨hp, hm⟩]
    rw [hb]
  | q + 2, _, h2, hl => by
    have ih := rf_next w t p hw hp hm (q + 1) (by omega) (by omega) (by omega)
    show rf w t (p + (q + 1)) ++ (brk w (p + (q + 1)) ++ (t.drop (p + (q + 1))).take 1) = _
    have hb : brk w (p + (q + 1)) = [] := by
      unfold brk
      rw [if_neg]
      rintro ⟨_, h⟩
      have e : p + (q + 1) - w = (p - w) + (q + 1) := by omega
      rw [e, mod_add _ _ _ (by omega) hm] at h
      omega
    rw [ih, hb, List.nil_append, List.append_assoc, List.append_assoc]
    congr 2
    rw [← List.drop_drop]
    exact (List.take_add (l := t.drop p) (i := q + 1) (j := 1)).symm
theorem rf_snoc (w : Nat) (t : List UInt8) (k : Nat) (h : k < t.length) : rf w t (k + 1) = rf w t k ++ (brk w k ++ [t[k]]) := by
  show rf w t k ++ (brk w k ++ (t.drop k).take 1) = _
  rw [List.drop_eq_getElem_cons h]
  rfl
end Go.Proofs.Ytcngdlaaadijpaa.LdMath
