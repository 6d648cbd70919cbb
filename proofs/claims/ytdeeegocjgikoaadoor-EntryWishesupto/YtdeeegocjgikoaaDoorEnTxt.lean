import Derived.Test.YtdeeegocjgikoaaDoorEnOwn
import Derived.Lib.AppendZeros
import Derived.BigQuiet
namespace Go.Proofs.YtdeeegocjgikoaaDoor
open Go.RowKit
set_option linter.unusedVariables false

theorem own_empty (w : World) : OwnS (w.alloc (.cells #[] 9)) w.heap.size (.slice (some ⟨w.heap.size, 0, none⟩) 0 0) [] :=
  ⟨rfl, Or.inr ⟨w.heap.size, 0, #[], rfl, Nat.le_refl _, heap_alloc_new w _, Nat.le_refl _, by unfold maxLen; omega, rfl, rfl⟩⟩

set_option maxRecDepth 100000 in
set_option maxHeartbeats 1000000 in
theorem roomy_any (l : List (List UInt8)) (a : Option Addr) (c : Nat) (w : World) (hl : l.length ≤ 1048576) (h1 : Row w a l) :
    Calls Tryd.prog 20 #[.slice a l.length c] w fun e w' => ∃ g cap, e = .returned (.slice (some ⟨g, 0, none⟩) l.length cap) ∧ Mkd w' w.heap.size g cap l ∧ Below w.heap.size w w' := by
  obtain ⟨wE, hwE⟩ : ∃ wE, w.alloc (.cells #[] 9) = wE := ⟨_, rfl⟩
  have hbE : Below w.heap.size w wE := by rw [← hwE]; exact (Below.refl _ _).alloc (Nat.le_refl _) _
  have hoE : OwnS wE w.heap.size (.slice (some ⟨w.heap.size, 0, none⟩) 0 0) [] := by rw [← hwE]; exact own_empty w
  obtain ⟨v1, w1, hr1, ho1, hb1⟩ := append_row wE w.heap.size _ [] l a l.length c hoE (h1.below hbE) rfl hbE.size (by simp; omega)
  rw [List.nil_append] at ho1
  have hb1' : Below w.heap.size w w1 := hbE.trans hb1
  obtain ⟨wA, hwA⟩ : ∃ wA, w1.alloc (.cells #[.string ⟨#[115, 112, 97, 114, 101, 32, 114, 111, 111, 109]⟩] 9) = wA := ⟨_, rfl⟩
  have hbA : Below w.heap.size w wA := by rw [← hwA]; exact hb1'.alloc hb1'.size _
  have hoA : OwnS wA w.heap.size v1 l := by rw [← hwA]; exact World.ownsRow.alloc ho1 _
  have hsA : Row wA (some ⟨w1.heap.size, 0, none⟩) [spr] := by
    intro i hi
    simp at hi
    subst hi
    refine ⟨w1.heap.size, 0, rfl, ?_⟩
    rw [← hwA]
    simp [go_sem, S, spr]
  obtain ⟨v2, w2, hr2, ho2, hb2⟩ := append_row wA w.heap.size v1 l [spr] _ 1 1 hoA hsA rfl hbA.size (by simp; omega)
  obtain ⟨g, cap, rfl, hcap⟩ : ∃ g cap, v2 = .slice (some ⟨g, 0, none⟩) (l.length + 1) cap ∧ l.length + 1 ≤ cap := by
    rcases owns_form (show World.ownsRow _ _ 9 1 _ _ _ from ho2) with ⟨_, h⟩ | ⟨g, cap, h, h', _⟩
    · simp at h
    · rw [List.length_append] at h h'
      exact ⟨g, cap, h, h'⟩
  have hfin : Hid (Mkd w2 w.heap.size g cap l ∧ Below w.heap.size w w2) := ⟨ho2, hbA.trans hb2⟩
  obtain ⟨va, vn, vc, rfl⟩ : ∃ va vn vc, v1 = .slice va vn vc := by
    obtain ⟨x, y, h, _⟩ := owns_slice (show World.ownsRow _ _ 9 1 _ _ _ from ho1)
    exact ⟨_, _, _, h⟩
  have n0 : (0 : Int) ≤ (l.length : Int) := Int.natCast_nonneg _
  have n1 : l.length ≤ cap := by omega
  clear hbE hoE hb1 ho1 hb1' hbA hoA hsA ho2 hb2 hcap h1 hl
  go_enter Tryd.func20, Tryd.ntmps20
  go_wp2_with (first | (at_builtin; refine Lib.wpList_append_run _ rfl _ _ _ _ rfl _ _ rfl rfl _ _ hr1 ?_) | (at_builtin; refine Lib.wpList_append_run _ rfl _ _ _ _ rfl _ _ rfl rfl _ _ hr2 ?_))
  go_ret
  exact ⟨g, cap, rfl, hfin.out⟩

set_option maxRecDepth 100000 in
set_option maxHeartbeats 1000000 in
theorem spared_any (l : List (List UInt8)) (B g cap : Nat) (w : World) (hl : l.length ≤ 1048576) (h : Mkd w B g cap l) :
    Calls Tryd.prog 22 #[.slice (some ⟨g, 0, none⟩) l.length cap] w fun e w' => e = .returned (.bool true) ∧ w' = w := by
  obtain ⟨b', o', e, hc⟩ := h.row l.length (by simp)
  injection e with e
  injection e with e1 e2
  subst e1 e2
  rw [List.getElem_append_right (Nat.le_refl _)] at hc
  simp only [Nat.sub_self, List.getElem_cons_zero, Nat.zero_add] at hc
  have hS : S spr = ⟨#[115, 112, 97, 114, 101, 32, 114, 111, 111, 109]⟩ := rfl
  rw [hS] at hc
  have n0 : (0 : Int) ≤ (l.length : Int) := Int.natCast_nonneg _
  have n1 : l.length + 1 ≤ cap := h.lt.2.2
  have n2 : (l.length : Int) < ((l.length + 1 : Nat) : Int) := Int.ofNat_lt.2 (Nat.lt_succ_self _)
  have n3 : wrap64 ((l.length : Int) + 1) = ((l.length + 1 : Nat) : Int) := by
    rw [IntWalk.wrap64_in] <;> omega
  have n4 : (0 : Int) ≤ ((l.length + 1 : Nat) : Int) := Int.natCast_nonneg _
  clear h hl hS
  generalize hn : l.length + 1 = n at *
  clear hn
  go_enter Tryd.func22, Tryd.ntmps22
  go_wp2_with fail
  go_ret
  exact ⟨rfl, rfl⟩

set_option maxRecDepth 100000 in
set_option maxHeartbeats 1000000 in
theorem sameT_any (l : List (List UInt8)) (a b : Option Addr) (c d : Nat) (w : World) (hl : l.length ≤ 9223372036854775807) (h1 : Row w a l) (h2 : Row w b l) :
    Calls Tryd.prog 18 #[.slice a l.length c, .slice b l.length d] w fun e w' => e = .returned (.bool true) ∧ ∃ q, w' = w.drewN q := by
  go_enter Tryd.func18, Tryd.ntmps18
  go_wp2_with fail
  go_loopw [5] (fun iv wr => ∃ i q : Nat, i ≤ l.length ∧ iv = .int .i64 (i : Int) ∧ Hid (wr = w.drewN q)) (fun iv _ => l.length - (intOf iv).toNat)
  case atStart => exact ⟨0, 0, Nat.zero_le _, rfl, rfl⟩
  case round =>
    obtain ⟨i, q, hi, rfl, hw⟩ := hrel
    by_cases hlt : i < l.length
    · obtain ⟨b1, o1, rfl, c1⟩ := h1 i hlt
      obtain ⟨b2, o2, rfl, c2⟩ := h2 i hlt
      have hE : ∀ a, wr.cell? a = w.cell? a := fun a => by rw [hw.out]; rfl
      rw [← hE] at c1 c2
      have i0 : (0 : Int) ≤ (i : Int) := Int.natCast_nonneg _
      have i1 : (i : Int) < (l.length : Int) := Int.ofNat_lt.2 hlt
      generalize S l[i] = X at *
      clear hE h1 h2
      go_wp2_with fail
      go_quiet (fail)
      go_wp2_with fail
      go_roundw
      case rel => exact ⟨i + 1, _, hlt, by simp, by unfold Hid; rw [hw.out, World.drewN_drewN]⟩
      case measure => simp [intOf]; omega
    · have e : i = l.length := by omega
      subst e
      have k1 : ¬ (l.length : Int) < (l.length : Int) := by omega
      go_wp2_with fail
      go_ret
      exact ⟨rfl, _, hw.out⟩
end Go.Proofs.YtdeeegocjgikoaaDoor
