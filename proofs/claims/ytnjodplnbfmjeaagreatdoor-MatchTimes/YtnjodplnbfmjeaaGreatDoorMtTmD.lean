import Derived.Test.YtnjodplnbfmjeaaGreatDoorMtTmC
import Derived.Test.YtnjodplnbfmjeaaGreatDoorAtShelf
import Derived.Lib.LaidTab
import Derived.Lib.ItoaNum
import Derived.Shelf.Strings.Repeat
namespace Go.Proofs.YtnjodplnbfmjeaaGreatDoor
open Go.RowKit
set_option linter.unusedVariables false
set_option linter.unusedSimpArgs false
namespace Mt

/-- The table of powers of ten, as the program's text lays it. -/
def TbW (w : World) : Prop := Lib.TabIs Tryz.prog w "internal/strconv.uint64pow10" .u64 Lib.pow10Tab
theorem TbW.below {W W' : World} (h : TbW W) (hb : Below W.heap.size W W') : TbW W' := by
  unfold TbW Lib.TabIs World.var? at h ⊢
  have hg : Tryz.prog.globalNamed "internal/strconv.uint64pow10" = some 15 := by kernel_rfl
  rw [hg] at h ⊢
  simp only [Option.bind_some] at h ⊢
  have hlt : 15 < W.heap.size := by
    rcases Nat.lt_or_ge 15 W.heap.size with h' | h'
    · exact h'
    · rw [Array.getElem?_eq_none h'] at h
      simp at h
  rw [hb.block _ hlt]
  exact h
theorem itoaT_any (n : Nat) (h1 : n ≤ 9223372036854775807) (w : World) (ht : TbW w) : Calls Tryz.prog 124 #[.int .i64 (n : Int)] w fun e w' => e = .returned (.string (S (Lib.decDigits n))) ∧ Below w.heap.size w w' :=
  (Tryz.strconv_Itoa (n : Int) (by omega) (by omega) w ht).mono fun e w' ⟨he, k, os, hw⟩ => ⟨by
    rw [he]
    have : Lib.itoa (n : Int) = Lib.decDigits n := by unfold Lib.itoa; rw [if_neg (by omega)]; rfl
    rw [this]; rfl, by
    subst hw
    refine ⟨rfl, rfl, rfl, ?_, fun j hj => ?_⟩
    · show w.heap.size ≤ (w.heap ++ os).size
      rw [Array.size_append]
      omega
    · show (w.heap ++ os)[j]? = w.heap[j]?
      exact Array.getElem?_append_left hj⟩
theorem nDig_le : ∀ (k n : Nat), n < 10 ^ (k + 1) → Lib.nDigits n ≤ k + 1
  | 0, n, h => by rw [Lib.nDigits_small (by simpa using h)]; omega
  | k + 1, n, h => by
    by_cases h0 : n < 10
    · rw [Lib.nDigits_small h0]; omega
    · rw [Lib.nDigits_big h0]
      have := nDig_le k (n / 10) (by rw [Nat.div_lt_iff_lt_mul (by decide), ← Nat.pow_succ]; exact h)
      omega
/-- A number with leading zeros. -/
def pad (k n : Nat) : List UInt8 := Lib.repeatL [48] (k - (Lib.decDigits n).length) ++ Lib.decDigits n
theorem pad_len (k n : Nat) (h : n < 10 ^ (k + 1)) : (pad (k + 1) n).length = k + 1 := by
  unfold pad
  rw [List.length_append, Lib.repeatL_length, Lib.decDigits_length]
  have := nDig_le k n h
  simp
  omega
theorem padded_any (k n : Nat) (hn : n < 10 ^ (k + 1)) (hk : k ≤ 3) (w : World) (ht : TbW w) : Calls Tryz.prog 283 #[.int .i64 (n : Int), .int .i64 ((k + 1 : Nat) : Int)] w fun e w' => e = .returned (.string (S (pad (k + 1) n))) ∧ Below w.heap.size w w' := by
  have hn4 : n < 10000 := Nat.lt_of_lt_of_le hn (Nat.pow_le_pow_right (by decide : 0 < 10) (by omega : k + 1 ≤ 4))
  have hI : Hid (Calls Tryz.prog 124 #[.int .i64 (n : Int)] w fun e w' => e = .returned (.string (S (Lib.decDigits n))) ∧ Below w.heap.size w w') := itoaT_any n (by omega) w ht
  have hl : (Lib.decDigits n).length ≤ k + 1 := by rw [Lib.decDigits_length]; exact nDig_le k n hn
  obtain ⟨r, hr⟩ : ∃ r, k + 1 - (Lib.decDigits n).length = r := ⟨_, rfl⟩
  have hR : ∀ W, Hid (Calls Tryz.prog 287 #[.string ⟨#[48]⟩, .int .i64 (r : Int)] W fun e w' => e = .returned (.string (S (Lib.repeatL [48] r))) ∧ Below W.heap.size W w') := fun W => Tryz.strings_Repeat ⟨#[48]⟩ r W (by omega) (by show 1 * r ≤ _; omega)
  have hs : (S (Lib.decDigits n)).size = (Lib.decDigits n).length := S_size _
  have hs2 : (S (Lib.repeatL [48] r)).size = r := by rw [S_size, Lib.repeatL_length]; simp
  have hw : wrap64 (((k + 1 : Nat) : Int) - ((S (Lib.decDigits n)).size : Int)) = (r : Int) := by rw [hs]; unfold wrap64; omega
  have hsum : ¬ (S (Lib.repeatL [48] r)).size + (S (Lib.decDigits n)).size > 9223372036854775807 := by rw [hs, hs2]; omega
  have hap : Hid (S (Lib.repeatL [48] r) ++ S (Lib.decDigits n) = S (pad (k + 1) n)) := by unfold Hid pad; rw [hr]; exact S_eq _ _ (by rw [app_l, S_l, S_l])
  clear ht hs hs2 hl hr hn
  obtain ⟨D, hD⟩ : ∃ D, S (Lib.decDigits n) = D := ⟨_, rfl⟩
  obtain ⟨R, hR'⟩ : ∃ R, S (Lib.repeatL [48] r) = R := ⟨_, rfl⟩
  obtain ⟨kk, hkk⟩ : ∃ kk : Int, ((k + 1 : Nat) : Int) = kk := ⟨_, rfl⟩
  rw [hkk] at hw ⊢
  rw [hD] at hI hw hsum hap
  simp only [hR'] at hR hsum hap
  clear hD hR' hkk
  go_enter Tryz.func283, Tryz.ntmps283
  go_wp2_with (first | (go_at_call 124; refine hI.out.mono ?_; rintro e w1 ⟨rfl, hb1⟩) | (go_at_call 287; refine (hR _).out.mono ?_; rintro e w2 ⟨rfl, hb2⟩))
  go_ret
  exact ⟨by rw [hap.out]; rfl, hb1.trans (hb2.mono hb1.size)⟩
end Mt
end Go.Proofs.YtnjodplnbfmjeaaGreatDoor
