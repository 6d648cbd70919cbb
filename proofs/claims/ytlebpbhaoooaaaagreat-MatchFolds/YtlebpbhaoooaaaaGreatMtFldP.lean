import Derived.Test.YtlebpbhaoooaaaaGreatMtFldC
import Derived.Test.YtlebpbhaoooaaaaGreatMtDig
namespace Go.Proofs.YtlebpbhaoooaaaaGreat
open Go.RowKit
open TextMath (fold squeeze check lo bl sqA sqB)
open MtFldM (swp)
set_option linter.unusedVariables false

theorem ex_pad (a l b : List UInt8) (ha : (check a).1 = true) (hb : (check b).1 = true) (hl : exOk l = true) : exOk (a ++ (l ++ b)) = true := by
  unfold exOk at hl ⊢
  rw [Bool.and_eq_true] at hl
  rw [TextMath.check_app_good a _ ha, TextMath.check_app_good l _ hl.2]
  rw [hb, Bool.and_true]
  cases l with
  | nil => simp at hl
  | cons c l => simp
theorem sq_left (c : UInt8) (l : List UInt8) (h : bl c = true) : sqA (c :: l) = sqA l := by
  show (if bl c then sqA l else c :: sqB false l) = _
  rw [h]
  rfl
theorem sq_right (l : List UInt8) (c : UInt8) (h : bl c = true) : sqA (l ++ [c]) = sqA l := by
  rw [TextMath.sqA_app l [] c h]
  show TextMath.join (sqA l) [] = sqA l
  unfold TextMath.join
  split <;> simp_all
theorem sq_pad2 (l : List UInt8) : squeeze ([32, 9] ++ (l ++ [32, 32])) = squeeze l := by
  rw [TextMath.squeeze_eq, TextMath.squeeze_eq]
  show sqA (32 :: 9 :: (l ++ [32, 32])) = _
  rw [sq_left 32 _ rfl, sq_left 9 _ rfl, show l ++ [32, 32] = (l ++ [32]) ++ [32] by simp, sq_right _ 32 rfl, sq_right _ 32 rfl]
theorem fold_pad1 (l : List UInt8) : fold ([10] ++ (l ++ [32])) = [10] ++ (fold l ++ [32]) := by
  unfold fold
  simp
  exact ⟨rfl, rfl⟩
theorem sq_pad1 (l : List UInt8) : squeeze ([10] ++ (l ++ [32])) = squeeze l := by
  rw [TextMath.squeeze_eq, TextMath.squeeze_eq]
  show sqA (10 :: (l ++ [32])) = _
  rw [sq_left 10 _ rfl, sq_right _ 32 rfl]
/-- Of digits alone: telephone numbers, figures. -/
theorem dig_ph (l : List UInt8) (h : dig l) : phIn ([43, 49, 32] ++ l) = true ∧ phIn ([43, 49, 45] ++ (l ++ [32])) = true ∧ phN ([43, 49, 32] ++ l) = phN ([43, 49, 45] ++ (l ++ [32])) := by
  have trim : ∀ (a b : List UInt8), (∀ c ∈ a, prL.contains c = true) → Lib.trimLeftS (a ++ b) prL = Lib.trimLeftS b prL := fun a b ha => by
    induction a with
    | nil => rfl
    | cons c a ih =>
      have i := ih (fun x hx => ha x (by simp [hx]))
      unfold Lib.trimLeftS at i ⊢
      rw [List.cons_append, List.dropWhile_cons_of_pos (by simpa using ha c (by simp))]
      exact i
  have hd : ∀ c ∈ l, prL.contains c = true := fun c hc => by
    have h1 := h c hc
    have : ∀ n : Fin 256, 48 ≤ (UInt8.ofNat n.val).toNat ∧ (UInt8.ofNat n.val).toNat ≤ 57 → prL.contains (UInt8.ofNat n.val) = true := by decide +kernel
    have := this ⟨c.toNat, c.toNat_lt⟩
    have e : UInt8.ofNat c.toNat = c := by simp
    rw [e] at this
    exact this h1
  have hn : l.filter (fun b => b != 32) = l ∧ l.filter (fun b => b != 45) = l := by
    constructor <;> rw [List.filter_eq_self] <;> intro c hc <;> have := h c hc <;> simp only [bne_iff_ne, ne_eq] <;> rintro rfl <;> exact absurd this (by decide)
  refine ⟨?_, ?_, ?_⟩
  · unfold phIn
    have := trim ([43, 49, 32] ++ l) [] (fun c hc => by
      rcases List.mem_append.1 hc with hc | hc
      · exact (show ∀ x ∈ ([43, 49, 32] : List UInt8), prL.contains x = true by decide) c hc
      · exact hd c hc)
    rw [List.append_nil] at this
    rw [this]
    rfl
  · unfold phIn
    have := trim ([43, 49, 45] ++ (l ++ [32])) [] (fun c hc => by
      rcases List.mem_append.1 hc with hc | hc
      · exact (show ∀ x ∈ ([43, 49, 45] : List UInt8), prL.contains x = true by decide) c hc
      · rcases List.mem_append.1 hc with hc | hc
        · exact hd c hc
        · exact (show ∀ x ∈ ([32] : List UInt8), prL.contains x = true by decide) c hc)
    rw [List.append_nil] at this
    rw [this]
    rfl
  · unfold phN
    rw [MtFldM.rep_filter, MtFldM.rep_filter, MtFldM.rep_filter, MtFldM.rep_filter]
    congr 1
    simp only [List.filter_append, hn.1, hn.2]
    have e1 : [43, 49, 32].filter (fun b : UInt8 => b != 32) = [43, 49] := by decide
    have e2 : [43, 49, 45].filter (fun b : UInt8 => b != 32) = [43, 49, 45] := by decide
    have e3 : [32].filter (fun b : UInt8 => b != 32) = [] := by decide
    have e4 : [43, 49].filter (fun b : UInt8 => b != 45) = [43, 49] := by decide
    have e5 : [43, 49, 45].filter (fun b : UInt8 => b != 45) = [43, 49] := by decide
    rw [e1, e2, e3, e4, e5]
    simp
theorem dig_nu (l : List UInt8) (h : dig l) : nuIn ([55] ++ l) = true ∧ nuIn ([55, 32] ++ l) = true ∧ Lib.replaceAll ([55] ++ l) [32] [] = Lib.replaceAll ([55, 32] ++ l) [32] [] := by
  have trim : ∀ (a b : List UInt8), (∀ c ∈ a, nuL.contains c = true) → Lib.trimLeftS (a ++ b) nuL = Lib.trimLeftS b nuL := fun a b ha => by
    induction a with
    | nil => rfl
    | cons c a ih =>
      have i := ih (fun x hx => ha x (by simp [hx]))
      unfold Lib.trimLeftS at i ⊢
      rw [List.cons_append, List.dropWhile_cons_of_pos (by simpa using ha c (by simp))]
      exact i
  have hd : ∀ c ∈ l, nuL.contains c = true := fun c hc => by
    have h1 := h c hc
    have : ∀ n : Fin 256, 48 ≤ (UInt8.ofNat n.val).toNat ∧ (UInt8.ofNat n.val).toNat ≤ 57 → nuL.contains (UInt8.ofNat n.val) = true := by decide +kernel
    have := this ⟨c.toNat, c.toNat_lt⟩
    have e : UInt8.ofNat c.toNat = c := by simp
    rw [e] at this
    exact this h1
  refine ⟨?_, ?_, ?_⟩
  · unfold nuIn
    have := trim ([55] ++ l) [] (fun c hc => by
      rcases List.mem_append.1 hc with hc | hc
      · exact (show ∀ x ∈ ([55] : List UInt8), nuL.contains x = true by decide) c hc
      · exact hd c hc)
    rw [List.append_nil] at this
    rw [this]
    rfl
  · unfold nuIn
    have := trim ([55, 32] ++ l) [] (fun c hc => by
      rcases List.mem_append.1 hc with hc | hc
      · exact (show ∀ x ∈ ([55, 32] : List UInt8), nuL.contains x = true by decide) c hc
      · exact hd c hc)
    rw [List.append_nil] at this
    rw [this]
    rfl
  · rw [MtFldM.rep_filter, MtFldM.rep_filter]
    simp only [List.filter_append]
    rfl
end Go.Proofs.YtlebpbhaoooaaaaGreat
