import Derived.Test.YtofghgggllfafaaDoorFlSnd
import Derived.Test.YtofghgggllfafaaDoorRefSeq
namespace Go.Proofs.YtofghgggllfafaaDoor
open Go.RowKit
open TextMath
set_option linter.unusedVariables false
set_option linter.unusedSimpArgs false

theorem RowTab.below {w w' : World} (h : RowTab w) (hb : Below w.heap.size w w') : RowTab w' := fun r c hr hc => by
  have := h r c hr hc
  rw [hb.cell (World.block_lt_of_cell? w _ this)]
  exact this
set_option maxRecDepth 100000 in
set_option maxHeartbeats 1000000 in
theorem rIsUTF8_any (s : ByteArray) (w : World) (hm : s.size ≤ 140737488355328) (ht : RowTab w) :
    Calls Tryd.prog 27 #[.string s] w fun e w' => e = .returned (.bool (utf s)) ∧ w' = w := by
  obtain ⟨e, p, h1, h2⟩ := utf_err s
  have hC := rCheck_any s w hm ht
  rw [h1] at hC
  rw [h2]
  have hC' : Hid (Calls Tryd.prog 33 #[.string s] w fun r w' => r = .returned (.tuple #[.int .i64 e, .int .i64 p]) ∧ w = w') := hC
  clear hC h1 h2 ht
  go_enter Tryd.func27, Tryd.ntmps27
  go_wp2_with (go_at_call 33; refine hC'.out.mono ?_; rintro r w' ⟨rfl, rfl⟩)
  all_goals go_ret
  all_goals (refine ⟨?_, rfl⟩; first | (simp_all; done) | (simp_all; rw [Bool.eq_iff_iff]; simp_all; done))

set_option maxRecDepth 100000 in
set_option maxHeartbeats 1000000 in
theorem noEmpty_any (i f : ByteArray) (l : List (List UInt8)) (a : Option Addr) (c : Nat) (w : World) (hl : l.length ≤ 1048576) (h1 : Row w a l) :
    Calls Tryd.prog 30 #[.agg #[.string i, .slice a l.length c, .string f]] w fun e w' => e = .returned (.bool (noE l)) ∧ Below w.heap.size w w' := by
  obtain ⟨Wb, hWb⟩ : ∃ W, w.alloc (.cells #[.string i, .slice a l.length c, .string f] 36) = W := ⟨_, rfl⟩
  have p : Box Wb w.heap.size 36 #[.string i, .slice a l.length c, .string f] := by rw [← hWb]; exact Box.new _ _ _
  have hB : Hid (Below w.heap.size w Wb) := by rw [← hWb]; exact (Below.refl _ _).alloc (Nat.le_refl _) _
  have c1 : Wb.cell? ⟨w.heap.size, 1, none⟩ = some (.slice a l.length c) := (p.cell 1 (by simp)).1
  have h1' : Hid (Row Wb a l) := h1.below hB.out
  clear h1 p
  go_enter Tryd.func30, Tryd.ntmps30
  go_upto_region 1 with fail
  clear hWb
  go_wp2_with fail
  go_loopw [3] (fun iv wr => ∃ i : Nat, i ≤ l.length ∧ iv = .int .i64 (i : Int) ∧ Hid (∀ j (hj : j < l.length), j < i → ¬ l[j] = []) ∧ wr = Wb) (fun iv _ => l.length - (intOf iv).toNat)
  case atStart => exact ⟨0, Nat.zero_le _, rfl, fun j hj h => by omega, rfl⟩
  case round =>
    obtain ⟨i, hi, rfl, hI, rfl⟩ := hrel
    by_cases hlt : i < l.length
    · obtain ⟨b1, o1, rfl, g1⟩ := h1'.out i hlt
      have j0 : (0 : Int) ≤ (i : Int) := Int.natCast_nonneg _
      have j1 : (i : Int) < (l.length : Int) := Int.ofNat_lt.2 hlt
      by_cases hx : l[i] = []
      · have hno : Hid (noE l = false) := noE_at hlt hx
        rw [hx] at g1
        have eS : S [] = ⟨#[]⟩ := rfl
        rw [eS] at g1
        clear hx hlt eS
        go_wp2_with fail
        go_ret
        exact ⟨by rw [hno.out]; rfl, hB.out⟩
      · have hI' : Hid (∀ j (hj : j < l.length), j < i + 1 → ¬ l[j] = []) := fun j hj h => by
          by_cases he : j = i
          · subst he; exact hx
          · exact hI.out j hj (by omega)
        have hne : ¬ (S l[i]).toList = [] := fun h => hx (toL_nil.1 h)
        have hne2 : (S l[i]).toList.isEmpty = false := by
          cases h : (S l[i]).toList with
          | nil => exact absurd h hne
          | cons _ _ => rfl
        generalize S l[i] = X at *
        have hlt' : Hid (i < l.length) := hlt
        clear hx hlt
        go_wp2_with fail
        go_roundw
        case rel => exact ⟨i + 1, hlt'.out, by simp, hI', trivial⟩
        case measure => have := hlt'.out; simp [intOf]; omega
    · have hle : i = l.length := by omega
      subst hle
      have hno : Hid (noE l = true) := noE_all (fun j hj => hI.out j hj hj)
      have k1 : ¬ (l.length : Int) < (l.length : Int) := by omega
      go_wp2_with fail
      go_ret
      exact ⟨by rw [hno.out]; rfl, hB.out⟩

theorem isE_false {x : List UInt8} (h : ¬ x = []) : x.isEmpty = false := by
  cases x with
  | nil => exact absurd rfl h
  | cons _ _ => rfl
theorem nil_nop : nop ⟨#[]⟩ ⟨#[]⟩ 0 = true := decide_eq_true ⟨toList_S [], rfl, toList_S []⟩
set_option maxRecDepth 100000 in
set_option maxHeartbeats 1000000 in
theorem fdX (d o : Int) (s v i : ByteArray) (a : Option Addr) (l : List (List UInt8)) (n : Nat) (f r : ByteArray) (b : Bool) (w : World) (ho : o < 0 ∨ 9 < o) :
    Calls Tryd.prog 22 #[.agg #[.int .i64 d, .int .i64 o, .string s, .string v, .string i, .slice a l.length n, .string f, .string r, .bool b]] w fun e w' => e = .returned (.bool (sou o s v i f r l b)) ∧ Below w.heap.size w w' := by
  obtain ⟨Wb, hWb⟩ : ∃ W, w.alloc (.cells #[.int .i64 d, .int .i64 o, .string s, .string v, .string i, .slice a l.length n, .string f, .string r, .bool b] 38) = W := ⟨_, rfl⟩
  have p : Box Wb w.heap.size 38 (nB d o s v i a l.length n f r b) := by rw [← hWb]; exact Box.new _ _ _
  have hB : Hid (Below w.heap.size w Wb) := by rw [← hWb]; exact (Below.refl _ _).alloc (Nat.le_refl _) _
  obtain ⟨c0, c1, c2, c3, c4, c5, c6, c7, c8⟩ := box_nineB p
  have hR : Hid (sou o s v i f r l b = false) := by unfold Hid sou; rw [if_pos ho]
  rw [hR.out]
  clear p
  rcases ho with ho | ho
  · go_enter Tryd.func22, Tryd.ntmps22
    go_upto_region 1 with fail
    clear hWb
    go_wp2_with fail
    all_goals go_ret
    all_goals exact ⟨rfl, hB.out⟩
  · have ho' : ¬ o < 0 := by omega
    go_enter Tryd.func22, Tryd.ntmps22
    go_upto_region 1 with fail
    clear hWb
    go_wp2_with fail
    all_goals go_ret
    all_goals exact ⟨rfl, hB.out⟩
end Go.Proofs.YtofghgggllfafaaDoor
