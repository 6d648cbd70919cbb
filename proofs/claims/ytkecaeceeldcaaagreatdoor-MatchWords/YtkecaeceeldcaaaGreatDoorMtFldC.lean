import Derived.Test.YtkecaeceeldcaaaGreatDoorMtFldM
namespace Go.Proofs.YtkecaeceeldcaaaGreatDoor
namespace MtFldM
open TextMath (fold squeeze check lo col trimP trimS seqLen ld wi u bl sqA sqB)
set_option linter.unusedVariables false

/-- What turns bytes below 128 into such, and leaves the others. -/
def Low (f : UInt8 → UInt8) : Prop := f 0 = 0 ∧ ∀ c, f c = c ∨ (c.toNat < 128 ∧ (f c).toNat < 128)
theorem low_of (f : UInt8 → UInt8) (h : ∀ n : Fin 256, f (UInt8.ofNat n.val) = UInt8.ofNat n.val ∨ ((UInt8.ofNat n.val).toNat < 128 ∧ (f (UInt8.ofNat n.val)).toNat < 128)) (h0 : f 0 = 0) : Low f := ⟨h0, fun c => by
  have := h ⟨c.toNat, c.toNat_lt⟩
  simpa using this⟩
theorem low_lo : Low lo := low_of lo (by decide +kernel) rfl
theorem low_swp : Low swp := low_of swp (by decide +kernel) rfl
theorem ld_low (b : Int) (h : (ld b).1 = 4 ∨ (ld b).1 = 3 ∨ (ld b).1 = 2) : 128 ≤ (ld b).2.1 := by
  revert h
  unfold ld
  repeat' split
  all_goals simp
theorem wi_same {f : UInt8 → UInt8} (hf : Low f) (c : UInt8) (lo hi : Int) (h : 128 ≤ lo) : wi (u (f c)) lo hi = wi (u c) lo hi := by
  rcases hf.2 c with e | ⟨h1, h2⟩
  · rw [e]
  · unfold wi u
    rw [Bool.eq_iff_iff]
    simp only [Bool.and_eq_true, decide_eq_true_eq]
    constructor
    · intro h; omega
    · intro h; omega
theorem ld_same {f : UInt8 → UInt8} (hf : Low f) (c : UInt8) : ld (u (f c)) = ld (u c) := by
  rcases hf.2 c with e | ⟨h1, h2⟩
  · rw [e]
  · unfold ld u
    rw [if_pos (by omega), if_pos (by omega)]
theorem getD_map {f : UInt8 → UInt8} (hf : Low f) (l : List UInt8) (i : Nat) : (l.map f).getD i 0 = f (l.getD i 0) := by
  simp only [List.getD, List.getElem?_map]
  cases l[i]? with
  | none => exact hf.1.symm
  | some c => rfl
theorem seq_map {f : UInt8 → UInt8} (hf : Low f) (l : List UInt8) : seqLen (l.map f) = seqLen l := by
  unfold seqLen
  simp only [List.length_map, getD_map hf, ld_same hf, wi_same hf _ 128 191 (by decide)]
  have e : (((ld (u (l.getD 0 0))).1 = 4 ∨ (ld (u (l.getD 0 0))).1 = 3 ∨ (ld (u (l.getD 0 0))).1 = 2) ∧ wi (u (f (l.getD 1 0))) (ld (u (l.getD 0 0))).2.1 (ld (u (l.getD 0 0))).2.2 = false) ↔ (((ld (u (l.getD 0 0))).1 = 4 ∨ (ld (u (l.getD 0 0))).1 = 3 ∨ (ld (u (l.getD 0 0))).1 = 2) ∧ wi (u (l.getD 1 0)) (ld (u (l.getD 0 0))).2.1 (ld (u (l.getD 0 0))).2.2 = false) :=
    and_congr_right fun h => by rw [wi_same hf _ _ _ (ld_low _ h)]
  simp only [e]
theorem check_map {f : UInt8 → UInt8} (hf : Low f) (l : List UInt8) : check (l.map f) = check l := by
  refine TextMath.check_ind (M := fun l => check (l.map f) = check l) ?_ ?_ ?_ l.length l (Nat.le_refl _)
  · rfl
  · intro l h0 h1
    rw [TextMath.check_bad l h0 h1, TextMath.check_bad (l.map f) (by rw [List.length_map]; exact h0) (by rw [seq_map hf]; exact h1)]
  · intro l h1 ih
    rw [TextMath.check_good l h1, TextMath.check_good (l.map f) (by rw [seq_map hf]; exact h1), seq_map hf, ← List.map_drop, ih]
theorem exOk_map {f : UInt8 → UInt8} (hf : Low f) (l : List UInt8) : exOk (l.map f) = exOk l := by
  unfold exOk
  rw [check_map hf]
  cases l <;> rfl
/-- Whether a text is of SynText: as of SynExact. -/
theorem exOk_fold (l : List UInt8) : exOk (fold l) = exOk l := exOk_map low_lo l
theorem exOk_swp (l : List UInt8) : exOk (l.map swp) = exOk l := exOk_map low_swp l
theorem bl_swp (c : UInt8) : bl (swp c) = bl c := by
  have : ∀ n : Fin 256, bl (swp (UInt8.ofNat n.val)) = bl (UInt8.ofNat n.val) := by decide +kernel
  have := this ⟨c.toNat, c.toNat_lt⟩
  simpa using this
theorem bl_fix (c : UInt8) (h : bl c = true) : swp c = c := by
  have : ∀ n : Fin 256, bl (UInt8.ofNat n.val) = true → swp (UInt8.ofNat n.val) = UInt8.ofNat n.val := by decide +kernel
  have := this ⟨c.toNat, c.toNat_lt⟩
  simp at this
  exact this h
theorem sqB_map : ∀ (l : List UInt8) (p : Bool), sqB p (l.map swp) = (sqB p l).map swp
  | [], _ => rfl
  | b :: t, p => by
    have i1 := sqB_map t true
    have i2 := sqB_map t false
    show (if bl (swp b) then sqB true (t.map swp) else (if p then [32, swp b] else [swp b]) ++ sqB false (t.map swp)) = _
    rw [bl_swp, i1, i2]
    show _ = (if bl b then sqB true t else (if p then [32, b] else [b]) ++ sqB false t).map swp
    cases bl b
    · cases p <;> rfl
    · rfl
theorem sqA_map : ∀ (l : List UInt8), sqA (l.map swp) = (sqA l).map swp
  | [] => rfl
  | b :: t => by
    have i1 := sqA_map t
    have i2 := sqB_map t false
    show (if bl (swp b) then sqA (t.map swp) else swp b :: sqB false (t.map swp)) = _
    rw [bl_swp, i1, i2]
    show _ = (if bl b then sqA t else b :: sqB false t).map swp
    cases bl b <;> rfl
theorem mem_sqB : ∀ (l : List UInt8) (p : Bool) (c : UInt8), c ∈ l → bl c = false → c ∈ sqB p l
  | b :: t, p, c, hm, hc => by
    show c ∈ if bl b then sqB true t else (if p then [32, b] else [b]) ++ sqB false t
    rcases List.mem_cons.1 hm with rfl | hm
    · rw [hc]
      cases p <;> simp
    · cases bl b
      · have := mem_sqB t false c hm hc
        cases p <;> simp [this]
      · exact mem_sqB t true c hm hc
theorem mem_sqA : ∀ (l : List UInt8) (c : UInt8), c ∈ l → bl c = false → c ∈ sqA l
  | b :: t, c, hm, hc => by
    show c ∈ if bl b then sqA t else b :: sqB false t
    rcases List.mem_cons.1 hm with rfl | hm
    · rw [hc]
      simp
    · cases bl b
      · have := mem_sqB t false c hm hc
        simp [this]
      · exact mem_sqA t c hm hc
/-- The case makes a difference to SynExact, just where there is one. -/
theorem squeeze_swp (l : List UInt8) : squeeze l = squeeze (l.map swp) ↔ l = l.map swp := by
  rw [TextMath.squeeze_eq, TextMath.squeeze_eq]
  refine ⟨fun h => ?_, fun h => by rw [← h]⟩
  rw [sqA_map] at h
  have hall : ∀ c ∈ sqA l, swp c = c := by
    have : (sqA l).map swp = (sqA l).map id := by rw [← h]; simp
    exact fun c hc => List.map_inj_left.1 this c hc
  have : l.map swp = l.map id := List.map_congr_left fun c hc => by
    cases hb : bl c with
    | true => exact bl_fix c hb
    | false => exact hall c (mem_sqA l c hc hb)
  rw [this]
  simp
end MtFldM
end Go.Proofs.YtkecaeceeldcaaaGreatDoor
