import Derived.Test.YtlebpbhaoooaaaaGreatMtSwpM
import Derived.BigQuiet
namespace Go.Proofs.YtlebpbhaoooaaaaGreat
open Go.RowKit
open MtFldM (swp)
set_option linter.unusedVariables false

/-- Figures of a text's first bytes. -/
def fx (l : List UInt8) (i : Nat) : List UInt8 := (l.take i).map dgT
theorem fx_snoc (s : ByteArray) (i : Nat) (h : i < s.size) : S (fx s.data.toList i) ++ S [dgT s[i]] = S (fx s.data.toList (i + 1)) := by
  rw [S_app]
  unfold fx
  rw [take_snoc s i h]
  simp
theorem fx_size (l : List UInt8) (i : Nat) (h : i ≤ 100) : (S (fx l i)).size ≤ 100 := by
  rw [S_size]
  unfold fx
  simp
  omega
set_option maxRecDepth 100000 in
set_option maxHeartbeats 1000000 in
theorem figure_any (a : ByteArray) (w : World) (ha : a.size ≤ 4611686018427387904) : Calls Tryz.prog 7 #[.string a] w fun e w' => e = .returned (.string (S (fx a.data.toList 100))) ∧ Below w.heap.size w w' := by
  have hL : Hid (a.data.toList.length = a.size) := size_l a
  go_enter Tryz.func7, Tryz.ntmps7
  go_wp2_with fail
  go_loopw [3, 4] (fun xv iv wr => ∃ i : Nat, i ≤ a.size ∧ i ≤ 100 ∧ iv = .int .i64 (i : Int) ∧ xv = .string (S (fx a.data.toList i)) ∧ Hid (Below w.heap.size w wr)) (fun _ iv _ => 100 - (intOf iv).toNat)
  case atStart => exact ⟨0, Nat.zero_le _, Nat.zero_le _, rfl, rfl, Below.refl _ _⟩
  case round =>
    obtain ⟨i, hle, hle2, rfl, rfl, hB⟩ := hrel
    have i0 : (0 : Int) ≤ (i : Int) := Int.natCast_nonneg _
    by_cases hlt : i < a.size ∧ i < 100
    · obtain ⟨hl1, hl2⟩ := hlt
      have i2 : (i : Int) < (a.size : Int) := by omega
      have i3 : (i : Int) < 100 := by omega
      have hsn := fx_snoc a i hl1
      have hxs := fx_size a.data.toList i hle2
      obtain ⟨X, hX⟩ : ∃ X, S (fx a.data.toList i) = X := ⟨_, rfl⟩
      obtain ⟨X', hX'⟩ : ∃ X', S (fx a.data.toList (i + 1)) = X' := ⟨_, rfl⟩
      rw [hX, hX'] at hsn
      rw [hX] at hxs ⊢
      have hcv := one_backT wr (a[i]'hl1)
      have hz1 : ¬ X.size + (S [dgT (a[i]'hl1)]).size > 9223372036854775807 := by rw [S_size]; simp; omega
      have hX2 : Hid (S (fx a.data.toList (i + 1)) = X') := hX'
      have hl1' : Hid (i < 100) := hl2
      have hl2' : Hid (i < a.size) := hl1
      have hB2 : Hid (Below w.heap.size w (wr.alloc (.cells #[.int .u8 (48 + ((a[i]'hl1).toNat : Int) % 10)] 5))) := hB.out.alloc hB.out.size _
      clear hX hX' hxs hle hle2 hl2 hB
      go_wp2_with fail
      go_roundw
      case rel => exact ⟨i + 1, hl2'.out, hl1'.out, by simp, by rw [hX2.out], hB2⟩
      case measure => have := hl1'.out; simp [intOf]; omega
    · by_cases hbig : i < a.size
      · obtain rfl : i = 100 := by omega
        have z1 : (100 : Int) < (a.size : Int) := by omega
        clear hlt hle hle2
        go_wp2_with fail
        go_ret
        exact ⟨rfl, hB.out⟩
      · obtain rfl : i = a.size := by omega
        have e : S (fx a.data.toList a.size) = S (fx a.data.toList 100) := by
          unfold fx
          rw [List.take_of_length_le (by rw [hL.out]; exact Nat.le_refl _), List.take_of_length_le (by rw [hL.out]; exact hle2)]
        clear hlt hle hle2 hbig
        go_wp2_with fail
        go_ret
        exact ⟨by first | rfl | (rw [← e]; rfl), hB.out⟩
end Go.Proofs.YtlebpbhaoooaaaaGreat
