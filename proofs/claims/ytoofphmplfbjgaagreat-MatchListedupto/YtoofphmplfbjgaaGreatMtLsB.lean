import Derived.Test.YtoofphmplfbjgaaGreatMtLsA
import Derived.Test.YtoofphmplfbjgaaGreatTrim
namespace Go.Proofs.YtoofphmplfbjgaaGreat
open Go.RowKit
open TextMath (fold squeeze check unhex wo normal)
set_option linter.unusedVariables false
set_option linter.unusedSimpArgs false
namespace Ml

theorem repK3 (c : UInt8) (new : List UInt8) (hn : new.length = 3) : ∀ (k : Nat) (s : List UInt8), (Lib.replaceK [c] new k s).length ≤ 3 * s.length
  | 0, s => by unfold Lib.replaceK; omega
  | k + 1, s => by
    unfold Lib.replaceK
    split
    · omega
    · rename_i hne
      have hge := Lib.index_ge s [c]
      obtain ⟨i, hi⟩ : ∃ i : Nat, Lib.index s [c] = i := by
        refine ⟨(Lib.index s [c]).toNat, ?_⟩
        have : ¬ Lib.index s [c] = -1 := fun e => hne (by rw [e]; rfl)
        omega
      have hs := congrArg List.length (MtFrmM.idx_cut c s i hi)
      have ih := repK3 c new hn k (s.drop (i + 1))
      rw [hi]
      simp only [Int.toNat_natCast, List.length_append, List.length_take, List.length_drop, List.length_cons, List.length_nil, Nat.zero_add, hn] at ih hs ⊢
      omega
theorem rep3 (s : List UInt8) (c : UInt8) (new : List UInt8) (hn : new.length = 3) : (Lib.replaceAll s [c] new).length ≤ 3 * s.length := by
  unfold Lib.replaceAll Lib.replace
  split
  · omega
  · exact repK3 _ _ hn _ _
/-- A line as it stands in a normal form. -/
def escL (l : List UInt8) : List UInt8 := Lib.replaceAll (Lib.replaceAll l [92] [92, 53, 99]) [36] [92, 50, 52]
theorem escL_len (l : List UInt8) : (escL l).length ≤ 9 * l.length := by
  have h1 := rep3 l 92 [92, 53, 99] rfl
  have h2 := rep3 (Lib.replaceAll l [92] [92, 53, 99]) 36 [92, 50, 52] rfl
  unfold escL
  omega
theorem rep3_any (m : Int) (l : List UInt8) (c : UInt8) (new : ByteArray) (hn : new.size = 3) (w : World) (hM : MaxL m w) (hl : l.length ≤ 67108864) : Calls Tryz.prog 75 #[.string (S l), .string ⟨#[c]⟩, .string new] w fun e w' => e = .returned (.string (S (Lib.replaceAll l [c] new.data.toList))) ∧ Below w.heap.size w w' := by
  have hc := Lib.countB_le ⟨#[c]⟩ (Nat.le_refl 1) l.length (S l) (by rw [S_size]; exact Nat.le_refl _)
  rw [S_size] at hc
  have h := Tryz.strings_ReplaceAll (S l) ⟨#[c]⟩ new m w (by rw [S_size]; omega) hM (Nat.le_refl 1) (by rw [S_size, hn]; omega)
  rw [S_l] at h
  exact h
theorem escapeLine_any (m : Int) (l : List UInt8) (w : World) (hM : MaxL m w) (hl : l.length ≤ 16777216) : Calls Tryz.prog 270 #[.string (S l)] w fun e w' => e = .returned (.string (S (escL l))) ∧ Below w.heap.size w w' := by
  have h1 : Hid (Calls Tryz.prog 75 #[.string (S l), .string ⟨#[92]⟩, .string ⟨#[92, 53, 99]⟩] w fun e w' => e = .returned (.string (S (Lib.replaceAll l [92] [92, 53, 99]))) ∧ Below w.heap.size w w') := rep3_any m l 92 ⟨#[92, 53, 99]⟩ rfl w hM (by omega)
  have hl1 := rep3 l 92 [92, 53, 99] rfl
  have h2 : Hid (∀ W, MaxL m W → Calls Tryz.prog 75 #[.string (S (Lib.replaceAll l [92] [92, 53, 99])), .string ⟨#[36]⟩, .string ⟨#[92, 50, 52]⟩] W fun e w' => e = .returned (.string (S (escL l))) ∧ Below W.heap.size W w') := fun W h => rep3_any m _ 36 ⟨#[92, 50, 52]⟩ rfl W h (by omega)
  have hM0 : Hid (MaxL m w) := hM
  generalize Lib.replaceAll l [92] [92, 53, 99] = l1 at *
  generalize escL l = l2 at *
  generalize S l1 = s1 at *
  generalize S l2 = s2 at *
  generalize S l = s at *
  clear hM hl hl1
  go_enter Tryz.func270, Tryz.ntmps270
  go_wp2_with fail
  refine h1.out.mono ?_
  rintro e w1 ⟨rfl, hb1⟩
  have h3 : Hid (Calls Tryz.prog 75 #[.string s1, .string ⟨#[36]⟩, .string ⟨#[92, 50, 52]⟩] w1 fun e w' => e = .returned (.string s2) ∧ Below w1.heap.size w1 w') := h2.out w1 (hM0.out.below hb1)
  have o1 : Hid (Below w.heap.size w w1) := hb1
  clear h1 h2 hb1
  go_wp2_with fail
  refine h3.out.mono ?_
  rintro e w2 ⟨rfl, hb2⟩
  have o2 : Hid (Below w.heap.size w w2) := o1.out.trans (hb2.mono o1.out.size)
  clear h3 hb2
  go_wp2_with fail
  go_ret
  exact ⟨rfl, o2.out⟩
theorem unE_len (sg : UInt8) : ∀ (n : Nat) (l t : List UInt8), unE sg n l = some t → t.length ≤ l.length
  | 0, l, t, h => by cases h
  | n + 1, l, t, h => by
    rw [unE] at h
    have h1 := cut_yes l 92
    have h2 := cut_no l 92
    generalize Lib.cut l [92] = x at *
    obtain ⟨f, b, c⟩ := x
    cases c with
    | false =>
      have h3 : f = l := h2 rfl
      have h4 : some f = some t := h
      injection h4 with h4
      rw [← h4, h3]
      exact Nat.le_refl _
    | true =>
      have h3 : l = f ++ 92 :: b := h1 rfl
      match b, h, h3 with
      | [], h, _ => cases h
      | [_], h, _ => cases h
      | a :: c2 :: r, h, h3 =>
        cases ht : two sg a c2 with
        | none =>
          rw [unB_no (fun a' c' t' e => by injection e with e1 e2; injection e2 with e2 e3; subst e1 e2; exact ht)] at h
          cases h
        | some y =>
          rw [unB_yes ht] at h
          cases hr : unE sg n r with
          | none => rw [hr] at h; cases h
          | some u =>
            rw [hr] at h
            have h4 : some (f ++ y :: u) = some t := h
            injection h4 with h4
            have := unE_len sg n r u hr
            rw [← h4, h3]
            simp only [List.length_append, List.length_cons]
            omega
/-- What each of a row says, if each says something. -/
def mapO (f : ByteArray → Option ByteArray) : List ByteArray → Option (List ByteArray)
  | [] => some []
  | x :: r => match f x with
    | some y => (mapO f r).map (y :: ·)
    | none => none
theorem mapO_snoc (f : ByteArray → Option ByteArray) {x y : ByteArray} (hy : f x = some y) : ∀ {l d : List ByteArray}, mapO f l = some d → mapO f (l ++ [x]) = some (d ++ [y])
  | [], d, h => by
    injection h with h
    subst h
    simp only [List.nil_append, mapO, hy]
    rfl
  | z :: l, d, h => by
    simp only [mapO, List.cons_append] at h ⊢
    cases hz : f z with
    | none => rw [hz] at h; cases h
    | some u =>
      rw [hz] at h
      cases hl : mapO f l with
      | none => rw [hl] at h; cases h
      | some d' =>
        rw [hl] at h
        have h1 : some (u :: d') = some d := h
        injection h1 with h1
        rw [mapO_snoc f hy hl, ← h1]
        rfl
theorem mapO_no (f : ByteArray → Option ByteArray) {x : ByteArray} (hy : f x = none) : ∀ (l r : List ByteArray), mapO f (l ++ x :: r) = none
  | [], r => by simp only [List.nil_append, mapO, hy]
  | z :: l, r => by
    simp only [mapO, List.cons_append, mapO_no f hy l r]
    split <;> rfl
abbrev dlS : ByteArray := ⟨#[36]⟩
def lsP (v : ByteArray) : List ByteArray := Lib.splitB dlS 0 (Lib.countB v dlS) v
/-- A line's normal form, if it is one. -/
def lnE (p : ByteArray) : Option ByteArray :=
  match unE 36 (p.data.toList.length + 1) p.data.toList with
  | some t => if t = [] then none else some (S (escL (normal t)))
  | none => none
/-- The lines of a list, if it is one. -/
def lsR (v : ByteArray) : Option (List ByteArray) := if (check v.data.toList).1 = true then mapO lnE (lsP v) else none
def lsO (o : Option (List ByteArray)) : Bool := o.isSome
def lsT : Option (List ByteArray) → ByteArray
  | some xs => S (Lib.join (xs.map (·.data.toList)) [36])
  | none => ⟨#[]⟩
theorem lsP_len (v : ByteArray) : (lsP v).length = Lib.countB v dlS + 1 := Lib.splitB_all dlS (by decide) 0 _ v rfl
theorem splitB_sz (sep : ByteArray) : ∀ (k : Nat) (s p : ByteArray), p ∈ Lib.splitB sep 0 k s → p.size ≤ s.size
  | 0, s, p, h => by
    rw [Lib.splitB_zero] at h
    obtain rfl := List.mem_singleton.1 h
    exact Nat.le_refl _
  | k + 1, s, p, h => by
    by_cases hm : Lib.indexB s sep = -1
    · rw [Lib.splitB_miss _ _ _ _ hm] at h
      obtain rfl := List.mem_singleton.1 h
      exact Nat.le_refl _
    · obtain ⟨i, hi⟩ : ∃ i : Nat, Lib.indexB s sep = i := by
        have hge := Lib.index_ge s.data.toList sep.data.toList
        have hm' : ¬ Lib.index s.data.toList sep.data.toList = -1 := hm
        exact ⟨(Lib.index s.data.toList sep.data.toList).toNat, by show Lib.index s.data.toList sep.data.toList = _; omega⟩
      rw [Lib.splitB_hit _ _ _ _ _ hi] at h
      rcases List.mem_cons.1 h with rfl | h
      · simp [ByteArray.size_extract]
        omega
      · have := splitB_sz sep k _ p h
        rw [ByteArray.size_extract] at this
        omega
/-- The row of lines: those already normal, then those as written. -/
def LiRow (W : World) (g : Nat) (P d : List ByteArray) : Prop := W.rowIs g 9 P.length (fun i => .string (if i < d.length then d.getD i ⟨#[]⟩ else P.getD i ⟨#[]⟩))
theorem LiRow.new (W : World) (P : List ByteArray) : LiRow (W.alloc (.cells (P.map Value.string).toArray 9)) W.heap.size P [] := by
  have h := World.rowIs_alloc W (P.map Value.string).toArray 9 (fun i => .string (P.getD i ⟨#[]⟩)) (fun i hi => by
    simp at hi
    simp [hi])
  have e : (P.map Value.string).toArray.size = P.length := by simp
  rw [e] at h
  exact h.congr (fun i hi => by simp)
theorem LiRow.set {W : World} {g : Nat} {P d : List ByteArray} (h : LiRow W g P d) (hd : d.length < P.length) (y : ByteArray) : LiRow (W.setCell ⟨g, d.length, none⟩ (.string y)) g P (d ++ [y]) := by
  refine (World.rowIs.set h d.length (.string y)).congr (fun i hi => ?_)
  by_cases e : i = d.length
  · subst e; simp
  · by_cases e2 : i < d.length
    · simp [e, e2, show i < d.length + 1 by omega, List.getElem?_append]
    · simp [e, e2, show ¬ i < d.length + 1 by omega]
end Ml
end Go.Proofs.YtoofphmplfbjgaaGreat
