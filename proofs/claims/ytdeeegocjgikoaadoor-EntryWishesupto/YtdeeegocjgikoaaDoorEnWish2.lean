import Derived.Test.YtdeeegocjgikoaaDoorEnWish
namespace Go.Proofs.YtdeeegocjgikoaaDoor
open Go.RowKit
open TextMath (fold lo)
set_option linter.unusedVariables false

def starT : List UInt8 := [42]
def plusT : List UInt8 := [43]
def noneT : List UInt8 := [49, 46, 49]
/-- A text that is none of the three. -/
def plainT (t : List UInt8) : Prop := t ≠ starT ∧ t ≠ plusT ∧ t ≠ noneT
/-- What the closure answers. -/
def wishQ (u o : Bool) (L : List (List UInt8)) (c : List UInt8) : Bool := (if (u != o) && ownB c then o else u) || L.any fun x => cvB x c
/-- What a text of the wishes asks for. -/
def askQ (t c : List UInt8) : Bool := if t = starT then !ownB c else if t = plusT then ownB c else if t = noneT then false else cvB t c
def wishT (l : List (List UInt8)) : List (List UInt8) := if l = [] then [starT] else l
theorem wish_math (l L : List (List UInt8)) (u o : Bool) (hu : u = (decide (l = []) || l.any (fun t => decide (t = starT)))) (ho : o = l.any (fun t => decide (t = plusT))) (hL : ∀ x, x ∈ L ↔ ∃ t ∈ l, plainT t ∧ cnR t x) (hE : ∀ t ∈ l, plainT t → (desc (S (fold t))).2.2 = true → ∃ x, cnR t x) (c : List UInt8) : wishQ u o L c = (wishT l).any (fun t => askQ t c) := by
  rw [Bool.eq_iff_iff]
  have key : (L.any fun x => cvB x c) = true ↔ ∃ t ∈ l, plainT t ∧ cvB t c = true := by
    rw [List.any_eq_true]
    constructor
    · rintro ⟨x, hx, h⟩
      obtain ⟨t, ht, hp, hr⟩ := (hL x).1 hx
      exact ⟨t, ht, hp, by rw [← (cnR_all hr).2 c]; exact h⟩
    · rintro ⟨t, ht, hp, h⟩
      cases hok : (desc (S (fold t))).2.2 with
      | false => rw [cv_bad hok] at h; cases h
      | true =>
        obtain ⟨x, hx⟩ := hE t ht hp hok
        exact ⟨x, (hL x).2 ⟨t, ht, hp, hx⟩, by rw [(cnR_all hx).2 c]; exact h⟩
  have hus : u = true ↔ l = [] ∨ starT ∈ l := by rw [hu]; simp
  have hos : o = true ↔ plusT ∈ l := by rw [ho]; simp
  have d1 : plusT ≠ starT := by decide
  have d2 : noneT ≠ starT := by decide
  have d3 : noneT ≠ plusT := by decide
  have rhs : (wishT l).any (fun t => askQ t c) = true ↔ ((l = [] ∨ starT ∈ l) ∧ ownB c = false) ∨ (plusT ∈ l ∧ ownB c = true) ∨ ∃ t ∈ l, plainT t ∧ cvB t c = true := by
    rw [List.any_eq_true]
    unfold wishT
    constructor
    · rintro ⟨t, ht, h⟩
      by_cases hl : l = []
      · rw [if_pos hl] at ht
        have e : t = starT := by simpa using ht
        subst e
        unfold askQ at h
        rw [if_pos rfl] at h
        exact Or.inl ⟨Or.inl hl, by simpa using h⟩
      · rw [if_neg hl] at ht
        unfold askQ at h
        by_cases e1 : t = starT
        · subst e1
          rw [if_pos rfl] at h
          exact Or.inl ⟨Or.inr ht, by simpa using h⟩
        · rw [if_neg e1] at h
          by_cases e2 : t = plusT
          · subst e2
            rw [if_pos rfl] at h
            exact Or.inr (Or.inl ⟨ht, h⟩)
          · rw [if_neg e2] at h
            by_cases e3 : t = noneT
            · rw [if_pos e3] at h; cases h
            · rw [if_neg e3] at h
              exact Or.inr (Or.inr ⟨t, ht, ⟨e1, e2, e3⟩, h⟩)
    · rintro (⟨h1, h2⟩ | ⟨h1, h2⟩ | ⟨t, ht, ⟨e1, e2, e3⟩, h⟩)
      · by_cases hl : l = []
        · rw [if_pos hl]
          exact ⟨starT, by simp, by unfold askQ; rw [if_pos rfl, h2]; rfl⟩
        · rw [if_neg hl]
          exact ⟨starT, h1.resolve_left hl, by unfold askQ; rw [if_pos rfl, h2]; rfl⟩
      · have hl : l ≠ [] := fun e => by rw [e] at h1; cases h1
        rw [if_neg hl]
        exact ⟨plusT, h1, by unfold askQ; rw [if_neg d1, if_pos rfl]; exact h2⟩
      · have hl : l ≠ [] := fun e => by rw [e] at ht; cases ht
        rw [if_neg hl]
        exact ⟨t, ht, by unfold askQ; rw [if_neg e1, if_neg e2, if_neg e3]; exact h⟩
  rw [rhs]
  unfold wishQ
  rw [Bool.or_eq_true, key]
  have hux : u = true → (l = [] ∨ starT ∈ l) := hus.1
  have hox : o = true → plusT ∈ l := hos.1
  constructor
  · rintro (h | h)
    · cases u <;> cases o <;> cases hb : ownB c <;> rw [hb] at h <;> simp at h
      · exact Or.inr (Or.inl ⟨hox rfl, rfl⟩)
      · exact Or.inl ⟨hux rfl, rfl⟩
      · exact Or.inl ⟨hux rfl, rfl⟩
      · exact Or.inr (Or.inl ⟨hox rfl, rfl⟩)
    · exact Or.inr (Or.inr h)
  · rintro (⟨h1, h2⟩ | ⟨h1, h2⟩ | h)
    · left
      rw [hus.2 h1, h2]
      simp
    · left
      rw [hos.2 h1, h2]
      cases u <;> simp
    · exact Or.inr h

/-- What 'wish' has laid. -/
def WishSt (w : World) (u o : Bool) (n : Nat) (D : DataW Unit) (W : World) : Prop :=
  Box W w.heap.size 4 #[.bool u] ∧ Box W (w.heap.size + 1) 4 #[.bool o] ∧ Box W (w.heap.size + 3) 56 #[.map (some (w.heap.size + 2))] ∧ W.ownsMap Tryd.prog 9 (unitElem (H := Unit)) (w.heap.size + 2) n D ∧ Below w.heap.size w W
theorem WishSt.below {w W W' : World} {u o : Bool} {n : Nat} {D : DataW Unit} (h : WishSt w u o n D W) (hb : Below W.heap.size W W') : WishSt w u o n D W' :=
  ⟨h.1.below hb, h.2.1.below hb, h.2.2.1.below hb, h.2.2.2.1.kept (Below.grown0 hb) (by simp), h.2.2.2.2.trans (hb.mono h.2.2.2.2.size)⟩

set_option maxRecDepth 100000 in
set_option maxHeartbeats 2000000 in
theorem wishTest_any (w W : World) (u o : Bool) (n : Nat) (D : DataW Unit) (L : List (List UInt8)) (c : List UInt8) (hW : WishSt w u o n D W) (hD : SetIs D L) (hz : ∀ x ∈ L, x.length ≤ 2097152) (hc : c.length ≤ 1048576) (hS : SupTab W) (hT : NumT3 W) :
    Calls Tryd.prog 34 #[.string (S c), .pointer (some ⟨w.heap.size, 0, none⟩), .pointer (some ⟨w.heap.size + 1, 0, none⟩), .pointer (some ⟨w.heap.size + 3, 0, none⟩)] W fun e w' => e = .returned (.bool (wishQ u o L c)) ∧ Below W.heap.size W w' := by
  have hcs : (S c).size = c.length := by rw [← size_l, S_l]
  have hO : Hid (Calls Tryd.prog 35 #[.string (S c)] W fun e w' => e = .returned (.bool (ownB c)) ∧ Below W.heap.size W w') := isOwn_any c W hc hT
  have hV : Hid (∀ X, Below W.heap.size W X → Calls Tryd.prog 36 #[.map (some (w.heap.size + 2)), .string (S c)] X fun e w' => e = .returned (.bool (L.any fun x => cvB x c)) ∧ Below X.heap.size X w') := fun X hX => coversOne_any _ n D L c X (hW.below hX).2.2.2.1 hD hz hc (hS.below hX)
  have hcl : Hid (∀ X, Below W.heap.size W X → X.cell? ⟨w.heap.size, 0, none⟩ = some (.bool u) ∧ X.cell? ⟨w.heap.size + 1, 0, none⟩ = some (.bool o) ∧ X.cell? ⟨w.heap.size + 3, 0, none⟩ = some (.map (some (w.heap.size + 2)))) := fun X hX => ⟨((hW.below hX).1.cell 0 (by simp)).1, ((hW.below hX).2.1.cell 0 (by simp)).1, ((hW.below hX).2.2.1.cell 0 (by simp)).1⟩
  obtain ⟨c1, c2, c3⟩ := hcl.out W (Below.refl _ _)
  clear hW hD hz hS hT
  unfold wishQ
  generalize (L.any fun x => cvB x c) = av at *
  cases hu : u <;> cases ho : o <;> subst hu <;> subst ho
  · go_enter Tryd.func34, Tryd.ntmps34
    go_wp2_with (go_at_call 36; refine (hV.out _ (Below.refl _ _)).mono ?_; rintro e w2 ⟨rfl, hb2⟩)
    go_ret
    exact ⟨by simp, hb2⟩
  · cases hb : ownB c with
    | false =>
      rw [hb] at hO
      go_enter Tryd.func34, Tryd.ntmps34
      go_wp2_with (first | (go_at_call 35; refine hO.out.mono ?_; rintro e w2 ⟨rfl, hb2⟩; obtain ⟨d1, d2, d3⟩ := hcl.out w2 hb2) | (go_at_call 36; refine (hV.out w2 hb2).mono ?_; rintro e w3 ⟨rfl, hb3⟩))
      go_ret
      exact ⟨by simp, hb2.trans (hb3.mono hb2.size)⟩
    | true =>
      rw [hb] at hO
      go_enter Tryd.func34, Tryd.ntmps34
      go_wp2_with (first | (go_at_call 35; refine hO.out.mono ?_; rintro e w2 ⟨rfl, hb2⟩; obtain ⟨d1, d2, d3⟩ := hcl.out w2 hb2) | (go_at_call 36; refine (hV.out w2 hb2).mono ?_; rintro e w3 ⟨rfl, hb3⟩))
      go_ret
      exact ⟨by simp, hb2⟩
  · cases hb : ownB c with
    | false =>
      rw [hb] at hO
      go_enter Tryd.func34, Tryd.ntmps34
      go_wp2_with (first | (go_at_call 35; refine hO.out.mono ?_; rintro e w2 ⟨rfl, hb2⟩; obtain ⟨d1, d2, d3⟩ := hcl.out w2 hb2) | (go_at_call 36; refine (hV.out w2 hb2).mono ?_; rintro e w3 ⟨rfl, hb3⟩))
      go_ret
      exact ⟨by simp, hb2⟩
    | true =>
      rw [hb] at hO
      go_enter Tryd.func34, Tryd.ntmps34
      go_wp2_with (first | (go_at_call 35; refine hO.out.mono ?_; rintro e w2 ⟨rfl, hb2⟩; obtain ⟨d1, d2, d3⟩ := hcl.out w2 hb2) | (go_at_call 36; refine (hV.out w2 hb2).mono ?_; rintro e w3 ⟨rfl, hb3⟩))
      go_ret
      exact ⟨by simp, hb2.trans (hb3.mono hb2.size)⟩
  · go_enter Tryd.func34, Tryd.ntmps34
    go_wp2_with fail
    go_ret
    exact ⟨by simp, Below.refl _ _⟩
end Go.Proofs.YtdeeegocjgikoaaDoor
