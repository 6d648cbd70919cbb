import Derived.Test.YtkecaeceeldcaaaGreatDoorRows
import Derived.Test.YtkecaeceeldcaaaGreatDoorBytes
import Derived.Test.YtkecaeceeldcaaaGreatDoorFoldMath
namespace Go.Proofs.YtkecaeceeldcaaaGreatDoor
open Go.RowKit
open TextMath (fold lo)

set_option maxHeartbeats 400000 in
theorem fold_any (s : ByteArray) (w : World) (hm : s.size ≤ maxLen) :
    Calls Tryz.prog 115 #[.string s] w fun e w' => e = .returned (.string (S (fold s.data.toList))) ∧ Below w.heap.size w w' := by
  unfold maxLen at hm
  have hL : Hid (s.data.toList.length = s.size) := size_l s
  obtain ⟨W1, cap, hconv, hb1, hz1, hr1⟩ := conv_bytes (P := Tryz.prog) w 9 44 5 s Tryz.underlying9 Tryz.underlying44 Tryz.underlying5
  go_enter Tryz.func115, Tryz.ntmps115
  go_wp2
  go_loopw [10] (fun i wr => ∃ k : Nat, k ≤ s.size ∧ i = .int .i64 k ∧ Below w.heap.size w wr ∧ BRow wr w.heap.size ((s.data.toList.take k).map lo ++ s.data.toList.drop k)) (fun i _ => s.size - (intOf i).toNat)
  case atStart => exact ⟨0, Nat.zero_le _, rfl, hb1, by simpa using hr1⟩
  case round =>
    clear hconv
    obtain ⟨k, hk, rfl, hb, hr⟩ := hrel
    by_cases hlt : k < s.size
    · have hkl : k < s.data.toList.length := by rw [hL.out]; exact hlt
      have hkt : k < ((s.data.toList.take k).map lo ++ s.data.toList.drop k).length := by rw [lenTo _ _ (by omega)]; exact hkl
      obtain ⟨hc, hf⟩ := hr k hkt
      rw [getTo _ _ hkl hkt] at hc
      have hset := hr.set k hkt (lo s.data.toList[k])
      rw [setTo _ _ hkl] at hset
      have hkeep := keepTo s.data.toList k hkl
      generalize s.data.toList[k] = c at *
      have hc256 : c.toNat < 256 := c.toNat_lt
      by_cases h1 : (65 : Int) ≤ c.toNat ∧ (c.toNat : Int) ≤ 90
      · rw [lo_big c h1.1 h1.2] at hset
        obtain ⟨h1, h2⟩ := h1
        have HS : Hid (BRow _ _ _) := hset
        clear hset hkeep hr hr1
        go_wp2
        go_roundw
        case rel => exact ⟨k + 1, by omega, by go_num, hb.setCell (Nat.le_refl _) _, HS.out⟩
        case measure => simp [intOf]; omega
      · have hke := hkeep (lo_small c h1)
        have HS : Hid (BRow wr w.heap.size (List.map lo (List.take (k + 1) s.data.toList) ++ List.drop (k + 1) s.data.toList)) := by rw [hke]; exact hr
        clear hset hkeep hr hr1 hke
        by_cases h2 : (65 : Int) ≤ c.toNat
        · have h3 : ¬ (c.toNat : Int) ≤ 90 := fun h => h1 ⟨h2, h⟩
          clear h1
          go_wp2
          go_roundw
          case rel => exact ⟨k + 1, by omega, by go_num, hb, HS.out⟩
          case measure => simp [intOf]; omega
        · clear h1
          go_wp2
          go_roundw
          case rel => exact ⟨k + 1, by omega, by go_num, hb, HS.out⟩
          case measure => simp [intOf]; omega
    · have hk2 : k = s.size := by omega
      subst hk2
      have hback := conv_back (P := Tryz.prog) wr 44 9 5 w.heap.size s.size cap (fold s.data.toList) Tryz.underlying44 Tryz.underlying5 Tryz.underlying9 (by simp [fold]) (by
        have e : List.map lo (List.take s.size s.data.toList) ++ List.drop s.size s.data.toList = fold s.data.toList := by
          rw [List.take_of_length_le (by rw [hL.out]; exact Nat.le_refl _), List.drop_eq_nil_of_le (by rw [hL.out]; exact Nat.le_refl _)]; simp [fold]
        rw [← e]; exact hr)
      clear hr hr1
      go_wp2
      go_ret
      exact ⟨rfl, hb⟩
end Go.Proofs.YtkecaeceeldcaaaGreatDoor
