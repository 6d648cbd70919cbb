import Derived.Test.YtekaedlonebipaaElLog
import Derived.Lib.AppendZeros
namespace Go.Proofs.Ytekaedlonebipaa
open Go.RowKit Go.Lib
set_option linter.unusedVariables false

theorem own_empty (w : World) : OwnI (w.alloc (.cells #[] 23)) w.heap.size (.slice (some ⟨w.heap.size, 0, none⟩) 0 0) [] :=
  ⟨rfl, Or.inr ⟨w.heap.size, 0, #[], rfl, Nat.le_refl _, heap_alloc_new w _, Nat.le_refl _, by unfold maxLen; omega, rfl, rfl⟩⟩
set_option maxRecDepth 100000 in
set_option maxHeartbeats 2000000 in
theorem evalLogic_walk (a : Option Addr) (l : List Int) (c : Nat) (t : Int) (w : World) (h1 : NRow w a l) (hl : l.length * 8 ≤ 140737488351232) :
    Calls Try.prog 3 #[.slice a l.length c, .int .i64 t] w fun e w' => e = .returned (.bool true) ∧ Below w.heap.size w w' := by
  obtain ⟨wE, hwE⟩ : ∃ wE, w.alloc (.cells #[] 23) = wE := ⟨_, rfl⟩
  have hbE : Below w.heap.size w wE := by rw [← hwE]; exact (Below.refl _ _).alloc (Nat.le_refl _) _
  have hoE : OwnI wE w.heap.size (.slice (some ⟨w.heap.size, 0, none⟩) 0 0) [] := by rw [← hwE]; exact own_empty w
  obtain ⟨v1, w1, hr1, ho1, hb1⟩ := appendI_row wE w.heap.size _ [] l a l.length c hoE (h1.below hbE) rfl hbE.size (by simp; omega)
  rw [List.nil_append] at ho1
  have hb1' : Below w.heap.size w w1 := hbE.trans hb1
  obtain ⟨wA, hwA⟩ : ∃ wA, w1.alloc (.cells #[.int .i64 77] 23) = wA := ⟨_, rfl⟩
  have hbA : Below w.heap.size w wA := by rw [← hwA]; exact hb1'.alloc hb1'.size _
  have hoA : OwnI wA w.heap.size v1 l := by rw [← hwA]; exact World.ownsRow.alloc ho1 _
  have hsA : NRow wA (some ⟨w1.heap.size, 0, none⟩) [77] := by
    intro i hi
    simp at hi
    subst hi
    refine ⟨w1.heap.size, 0, rfl, ?_⟩
    rw [← hwA]
    simp [go_sem]
  obtain ⟨v2, w2, hr2, ho2, hb2⟩ := appendI_row wA w.heap.size v1 l [77] _ 1 1 hoA hsA rfl hbA.size (by simp; omega)
  obtain ⟨g, cap, rfl, hcap⟩ : ∃ g cap, v2 = .slice (some ⟨g, 0, none⟩) (l.length + 1) cap ∧ l.length + 1 ≤ cap := by
    rcases ownI_form ho2 with ⟨_, h⟩ | ⟨g, cap, h, h', _⟩
    · simp at h
    · rw [List.length_append] at h h'
      exact ⟨g, cap, h, h'⟩
  have hb12 : Below w.heap.size w w2 := hbA.trans hb2
  obtain ⟨va, vn, vc, rfl⟩ := ownI_slice ho1
  have hrow : NRow w2 (some ⟨g, 0, none⟩) (l ++ [77]) := (ownI_row ho2).1
  have hmine : NRow w2 (some ⟨g, 0, none⟩) l := fun i hi => by
    obtain ⟨b, off, e, hc⟩ := hrow i (by simp; omega)
    exact ⟨b, off, e, by rw [hc, List.getElem_append_left hi]⟩
  have hts : NRow w2 a l := h1.below hb12
  have hlen : l.length ≤ 140737488355328 := by omega
  have hAnd := and_any l (some ⟨g, 0, none⟩) cap w2 hlen hmine
  have hOr := or_any l (some ⟨g, 0, none⟩) cap w2 hlen hmine
  have hNot := not_any t w2
  have rAnd := rAnd_any l a c w2 hlen hts
  have rOr := rOr_any l a c w2 hlen hts
  have rNot := rNot_any t w2
  have hSm := sameTr_any l (some ⟨g, 0, none⟩) a cap c w2 hlen hmine hts
  obtain ⟨b', o', e, hc⟩ := hrow l.length (by simp)
  injection e with e
  injection e with e1 e2
  subst e1 e2
  rw [List.getElem_append_right (Nat.le_refl _)] at hc
  simp only [Nat.sub_self, List.getElem_cons_zero, Nat.zero_add] at hc
  have hcd : ∀ q, (w2.drewN q).cell? ⟨g, l.length, none⟩ = some (.int .i64 77) := fun q => hc
  have n0 : (0 : Int) ≤ (l.length : Int) := Int.natCast_nonneg _
  have n1 : l.length ≤ cap := by omega
  have n2 : (l.length : Int) < ((l.length + 1 : Nat) : Int) := Int.ofNat_lt.2 (Nat.lt_succ_self _)
  have hend : Hid (∀ q, Below w.heap.size w (w2.drewN q)) := fun q => hb12.trans ⟨rfl, rfl, rfl, Nat.le_refl _, fun _ _ => rfl⟩
  clear hbE hoE hb1 ho1 hb1' hbA hoA hsA ho2 hb2 hcap h1 hl hrow hmine hts hlen hb12 hc
  generalize lo l = LO at *
  generalize up l = UP at *
  generalize 2 - ct t = NT at *
  go_enter Try.func3, Try.ntmps3
  go_wp2_with (first
    | (at_builtin; refine Lib.wpList_append_run _ rfl _ _ _ _ rfl _ _ rfl rfl _ _ hr1 ?_; clear hr1)
    | (at_builtin; refine Lib.wpList_append_run _ rfl _ _ _ _ rfl _ _ rfl rfl _ _ hr2 ?_; clear hr2)
    | (go_at_call 4; refine hAnd.mono ?_; rintro e w3 ⟨rfl, rfl⟩)
    | (go_at_call 5; refine hOr.mono ?_; rintro e w3 ⟨rfl, rfl⟩)
    | (go_at_call 6; refine hNot.mono ?_; rintro e w3 ⟨rfl, rfl⟩)
    | (go_at_call 7; refine rAnd.mono ?_; rintro e w3 ⟨rfl, rfl⟩)
    | (go_at_call 8; refine rOr.mono ?_; rintro e w3 ⟨rfl, rfl⟩)
    | (go_at_call 9; refine rNot.mono ?_; rintro e w3 ⟨rfl, rfl⟩)
    | (go_at_call 10; refine hSm.mono ?_; rintro e w3 ⟨rfl, q, rfl⟩; have hcq := hcd q))
  go_ret
  exact ⟨rfl, hend.out _⟩
end Go.Proofs.Ytekaedlonebipaa
