import Derived.Test.YtkecaeceeldcaaaGreatDoorBytes
import Derived.Test.YtkecaeceeldcaaaGreatDoorAtShelf
import Derived.BigQuiet
namespace Go.Proofs.YtkecaeceeldcaaaGreatDoor
open Go.RowKit
set_option linter.unusedVariables false

namespace Lb
/-- A letter for a byte. -/
def lbT (c : UInt8) : UInt8 := 97 + c % 26
theorem lbT_val (c : UInt8) : (lbT c).toNat = 97 + c.toNat % 26 := by
  unfold lbT
  rw [UInt8.toNat_add, UInt8.toNat_mod]
  show (97 + c.toNat % 26) % 256 = _
  omega
theorem lbT_int (c : UInt8) : (97 + (c.toNat : Int) % 26) = ((lbT c).toNat : Int) := by rw [lbT_val]; omega
theorem S_app4 (l m : List UInt8) : S l ++ S m = S (l ++ m) := by refine S_eq _ _ ?_; rw [app_l, S_l, S_l]
theorem one_backL (w : World) (c : UInt8) : (convert 44 9 (.slice (some ⟨w.heap.size, 0, none⟩) 1 1)).run Tryz.prog (w.alloc (.cells #[.int .u8 (97 + (c.toNat : Int) % 26)] 5)) = .ok (.string (S [lbT c])) (w.alloc (.cells #[.int .u8 (97 + (c.toNat : Int) % 26)] 5)) := by
  rw [lbT_int]
  refine conv_back (P := Tryz.prog) _ _ _ _ w.heap.size 1 1 [lbT c] Tryz.underlying44 Tryz.underlying5 Tryz.underlying9 rfl ?_
  intro j hj
  have : j = 0 := by simp at hj; omega
  subst this
  simp [go_sem]
/-- A label: a letter for each of a text's first bytes. -/
def fx (l : List UInt8) (i : Nat) : List UInt8 := 118 :: (l.take i).map lbT
theorem fx_snoc (s : ByteArray) (i : Nat) (h : i < s.size) : S (fx s.data.toList i) ++ S [lbT s[i]] = S (fx s.data.toList (i + 1)) := by
  rw [S_app4]
  unfold fx
  rw [take_snoc s i h]
  simp
theorem fx_size (l : List UInt8) (i : Nat) (h : i ≤ 20) : (S (fx l i)).size ≤ 21 := by
  rw [S_size]
  unfold fx
  simp
  omega
set_option maxRecDepth 100000 in
set_option maxHeartbeats 1000000 in
theorem label_any (a : ByteArray) (w : World) (ha : a.size ≤ 4611686018427387904) : Calls Tryz.prog 16 #[.string a] w fun e w' => e = .returned (.string (S (fx a.data.toList 20))) ∧ Below w.heap.size w w' := by
  have hL : Hid (a.data.toList.length = a.size) := size_l a
  go_enter Tryz.func16, Tryz.ntmps16
  go_wp2_with fail
  go_loopw [3, 4] (fun xv iv wr => ∃ i : Nat, i ≤ a.size ∧ i ≤ 20 ∧ iv = .int .i64 (i : Int) ∧ xv = .string (S (fx a.data.toList i)) ∧ Hid (Below w.heap.size w wr)) (fun _ iv _ => 20 - (intOf iv).toNat)
  case atStart => exact ⟨0, Nat.zero_le _, Nat.zero_le _, rfl, rfl, Below.refl _ _⟩
  case round =>
    obtain ⟨i, hle, hle2, rfl, rfl, hB⟩ := hrel
    have i0 : (0 : Int) ≤ (i : Int) := Int.natCast_nonneg _
    by_cases hlt : i < a.size ∧ i < 20
    · obtain ⟨hl1, hl2⟩ := hlt
      have i2 : (i : Int) < (a.size : Int) := by omega
      have i3 : (i : Int) < 20 := by omega
      have hsn := fx_snoc a i hl1
      have hxs := fx_size a.data.toList i hle2
      obtain ⟨X, hX⟩ : ∃ X, S (fx a.data.toList i) = X := ⟨_, rfl⟩
      obtain ⟨X', hX'⟩ : ∃ X', S (fx a.data.toList (i + 1)) = X' := ⟨_, rfl⟩
      rw [hX, hX'] at hsn
      rw [hX] at hxs ⊢
      have hcv := one_backL wr (a[i]'hl1)
      have hz1 : ¬ X.size + (S [lbT (a[i]'hl1)]).size > 9223372036854775807 := by rw [S_size]; simp; omega
      have hX2 : Hid (S (fx a.data.toList (i + 1)) = X') := hX'
      have hl1' : Hid (i < 20) := hl2
      have hl2' : Hid (i < a.size) := hl1
      have hB2 : Hid (Below w.heap.size w (wr.alloc (.cells #[.int .u8 (97 + ((a[i]'hl1).toNat : Int) % 26)] 5))) := hB.out.alloc hB.out.size _
      clear hX hX' hxs hle hle2 hl2 hB
      go_wp2_with fail
      go_roundw
      case rel => exact ⟨i + 1, hl2'.out, hl1'.out, by simp, by rw [hX2.out], hB2⟩
      case measure => have := hl1'.out; simp [intOf]; omega
    · by_cases hbig : i < a.size
      · obtain rfl : i = 20 := by omega
        have z1 : (20 : Int) < (a.size : Int) := by omega
        clear hlt hle hle2
        go_wp2_with fail
        go_ret
        exact ⟨rfl, hB.out⟩
      · obtain rfl : i = a.size := by omega
        have e : S (fx a.data.toList a.size) = S (fx a.data.toList 20) := by
          unfold fx
          rw [List.take_of_length_le (by rw [hL.out]; exact Nat.le_refl _), List.take_of_length_le (by rw [hL.out]; exact hle2)]
        clear hlt hle hle2 hbig
        go_wp2_with fail
        go_ret
        exact ⟨by first | rfl | (rw [← e]; rfl), hB.out⟩
end Lb
end Go.Proofs.YtkecaeceeldcaaaGreatDoor
