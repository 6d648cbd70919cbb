import Derived.Lib.Strings
import Derived.Lib.IndexMore
namespace FitM
open Go.Lib
set_option linter.unusedVariables false

/-- The first place that has a piece leaves the most room to those behind it. -/
def gre : List (List UInt8) → List UInt8 → Bool
  | [], _ => true
  | p :: l, m => if 0 ≤ index m p then gre l (m.drop ((index m p).toNat + p.length)) else false
def progF (v i : List UInt8) (l : List (List UInt8)) (f : List UInt8) : Bool :=
  hasPrefix v i && hasSuffix (v.drop i.length) f && gre l (trimSuffix (v.drop i.length) f)
/-- Does the piece stand in the text at that place? -/
def St (v : List UInt8) (k : Nat) (p : List UInt8) : Prop := k + p.length ≤ v.length ∧ (v.drop k).take p.length = p
/-- Where the last piece may end, once one more is laid. -/
def nxt (v : List UInt8) (E : Nat → Prop) (p : List UInt8) : Nat → Prop := fun t => ∃ k, t = k + p.length ∧ (∃ j, j ≤ k ∧ E j) ∧ St v k p
def lay (v : List UInt8) (last : Nat) : Nat → List (List UInt8) → Prop
  | pos, [] => pos ≤ last
  | pos, p :: l => ∃ k, pos ≤ k ∧ St v k p ∧ lay v last (k + p.length) l
theorem lay_le (v : List UInt8) (last : Nat) : ∀ (l : List (List UInt8)) (pos : Nat), lay v last pos l → pos ≤ last
  | [], pos, h => h
  | p :: l, pos, ⟨k, h1, h2, h3⟩ => by
    have := lay_le v last l _ h3
    omega
theorem lay_mono (v : List UInt8) (last : Nat) : ∀ (l : List (List UInt8)) (a b : Nat), a ≤ b → lay v last b l → lay v last a l
  | [], a, b, h, h1 => Nat.le_trans h h1
  | p :: l, a, b, h, ⟨k, h1, h2, h3⟩ => ⟨k, Nat.le_trans h h1, h2, h3⟩
theorem fold_lay (v : List UInt8) (last : Nat) : ∀ (l : List (List UInt8)) (E : Nat → Prop), (∃ k, k ≤ last ∧ (l.foldl (nxt v) E) k) ↔ ∃ j, E j ∧ lay v last j l
  | [], E => ⟨fun ⟨k, h1, h2⟩ => ⟨k, h2, h1⟩, fun ⟨k, h1, h2⟩ => ⟨k, h2, h1⟩⟩
  | p :: l, E => by
    rw [List.foldl_cons, fold_lay v last l]
    constructor
    · rintro ⟨j, ⟨k, rfl, ⟨i, h1, h2⟩, h3⟩, h4⟩
      exact ⟨i, h2, k, h1, h3, h4⟩
    · rintro ⟨i, h1, k, h2, h3, h4⟩
      exact ⟨_, ⟨k, rfl, ⟨i, h2, h1⟩, h3⟩, h4⟩
theorem occ_st (v : List UInt8) (last pos j : Nat) (p : List UInt8) (hl : last ≤ v.length) (hr : pos + j + p.length ≤ last) : occAt ((v.take last).drop pos) p j = true ↔ St v (pos + j) p := by
  unfold occAt St
  rw [List.isPrefixOf_iff_prefix, List.drop_drop, List.prefix_iff_eq_take, List.drop_take, List.take_take, Nat.min_eq_left (by omega)]
  constructor
  · intro h
    exact ⟨by omega, h.symm⟩
  · rintro ⟨_, h⟩
    exact h.symm
theorem gre_lay (v : List UInt8) (last : Nat) (hl : last ≤ v.length) : ∀ (l : List (List UInt8)) (pos : Nat), pos ≤ last → (gre l ((v.take last).drop pos) = true ↔ lay v last pos l)
  | [], pos, h => ⟨fun _ => h, fun _ => rfl⟩
  | p :: l, pos, h => by
    have hlen : ((v.take last).drop pos).length = last - pos := by rw [List.length_drop, List.length_take]; omega
    unfold gre
    rcases index_spec ((v.take last).drop pos) p with ⟨h1, h2⟩ | ⟨i, h1, h2, h3, h4⟩
    · rw [h1, if_neg (by decide)]
      constructor
      · intro h; cases h
      · rintro ⟨k, k1, k2, k3⟩
        have hle := lay_le v last l _ k3
        have := h2 (k - pos) (by rw [hlen]; omega)
        rw [(occ_st v last pos (k - pos) p hl (by omega)).2 (by rw [show pos + (k - pos) = k by omega]; exact k2)] at this
        cases this
    · have hroom := index_room ((v.take last).drop pos) p (by rw [h1]; omega)
      rw [h1, hlen] at hroom
      rw [h1, if_pos (by omega), Int.toNat_natCast, List.drop_drop]
      have hst := (occ_st v last pos i p hl (by omega)).1 h3
      have ih := gre_lay v last hl l (pos + (i + p.length)) (by omega)
      rw [ih]
      constructor
      · intro q
        exact ⟨pos + i, by omega, hst, by rw [Nat.add_assoc]; exact q⟩
      · rintro ⟨k, k1, k2, k3⟩
        have hle := lay_le v last l _ k3
        refine lay_mono v last l _ _ ?_ k3
        rcases Nat.lt_or_ge (k - pos) i with hlt | hge
        · have := h4 (k - pos) hlt
          rw [(occ_st v last pos (k - pos) p hl (by omega)).2 (by rw [show pos + (k - pos) = k by omega]; exact k2)] at this
          cases this
        · omega
/-- What the document's answer is, by all places at which the pieces may be laid. -/
def refP (v i : List UInt8) (l : List (List UInt8)) (f : List UInt8) : Prop :=
  St v 0 i ∧ f.length ≤ v.length ∧ St v (v.length - f.length) f ∧ ∃ k, k ≤ v.length - f.length ∧ (l.foldl (nxt v) (fun j => j = i.length)) k
theorem pre_st (v i : List UInt8) : hasPrefix v i = true ↔ St v 0 i := by
  unfold hasPrefix St
  rw [List.isPrefixOf_iff_prefix, List.prefix_iff_eq_take]
  constructor
  · intro h
    refine ⟨?_, by rw [List.drop_zero]; exact h.symm⟩
    have := congrArg List.length h
    rw [List.length_take] at this
    omega
  · rintro ⟨_, h⟩
    rw [List.drop_zero] at h
    exact h.symm
theorem suf_st (v f : List UInt8) (a : Nat) (ha : a ≤ v.length) : hasSuffix (v.drop a) f = true ↔ f.length ≤ v.length ∧ a ≤ v.length - f.length ∧ St v (v.length - f.length) f := by
  unfold hasSuffix St
  rw [List.isSuffixOf_iff_suffix, List.suffix_iff_eq_drop, List.length_drop, List.drop_drop]
  constructor
  · intro h
    have hz := congrArg List.length h
    rw [List.length_drop] at hz
    refine ⟨by omega, by omega, by omega, ?_⟩
    rw [show a + (v.length - a - f.length) = v.length - f.length by omega] at h
    rw [← h, List.take_of_length_le (Nat.le_refl _)]
  · rintro ⟨h1, h2, h3, h4⟩
    rw [show a + (v.length - a - f.length) = v.length - f.length by omega]
    rw [List.take_of_length_le (by rw [List.length_drop]; omega)] at h4
    exact h4.symm
theorem prog_ref (v i : List UInt8) (l : List (List UInt8)) (f : List UInt8) : progF v i l f = true ↔ refP v i l f := by
  unfold progF refP
  rw [Bool.and_eq_true, Bool.and_eq_true, pre_st, fold_lay]
  constructor
  · rintro ⟨⟨h1, h2⟩, h3⟩
    have hi : i.length ≤ v.length := by have := h1.1; omega
    have h2' := (suf_st v f i.length hi).1 h2
    unfold trimSuffix at h3
    rw [if_pos h2] at h3
    have e : (v.drop i.length).take ((v.drop i.length).length - f.length) = (v.take (v.length - f.length)).drop i.length := by
      rw [List.drop_take, List.length_drop]
      congr 1
      omega
    rw [e, gre_lay v _ (by omega) l _ h2'.2.1] at h3
    exact ⟨h1, h2'.1, h2'.2.2, _, rfl, h3⟩
  · rintro ⟨h1, h2, h3, j, rfl, h4⟩
    have hle := lay_le _ _ _ _ h4
    have hi : i.length ≤ v.length := by omega
    have hs := (suf_st v f i.length hi).2 ⟨h2, hle, h3⟩
    refine ⟨⟨h1, hs⟩, ?_⟩
    unfold trimSuffix
    rw [if_pos hs]
    have e : (v.drop i.length).take ((v.drop i.length).length - f.length) = (v.take (v.length - f.length)).drop i.length := by
      rw [List.drop_take, List.length_drop]
      congr 1
      omega
    rw [e, gre_lay v _ (by omega) l _ hle]
    exact h4
theorem prog_none (v : List UInt8) : progF v [] [] [] = true := by
  unfold progF hasPrefix hasSuffix gre
  simp
end FitM
