import Derived.Test.YtlebpbhaoooaaaaGreatMtFgr
namespace Go.Proofs.YtlebpbhaoooaaaaGreat
open Go.RowKit
open MtFldM (swp)
set_option linter.unusedVariables false

set_option maxRecDepth 100000 in
set_option maxHeartbeats 2000000 in
theorem swapped_any (s : ByteArray) (w : World) (hm : s.size ≤ maxLen) :
    Calls Tryz.prog 5 #[.string s] w fun e w' => e = .returned (.string (S (s.data.toList.map swp))) ∧ Below w.heap.size w w' := by
  unfold maxLen at hm
  have hL : Hid (s.data.toList.length = s.size) := size_l s
  obtain ⟨W1, cap, hconv, hb1, hz1, hr1⟩ := conv_bytes (P := Tryz.prog) w 9 35 5 s Tryz.underlying9 Tryz.underlying35 Tryz.underlying5
  go_enter Tryz.func5, Tryz.ntmps5
  go_wp2
  go_loopw [4] (fun i wr => ∃ k : Nat, k ≤ s.size ∧ i = .int .i64 k ∧ Below w.heap.size w wr ∧ BRow wr w.heap.size ((s.data.toList.take k).map swp ++ s.data.toList.drop k)) (fun i _ => s.size - (intOf i).toNat)
  case atStart => exact ⟨0, Nat.zero_le _, rfl, hb1, by simpa using hr1⟩
  case round =>
    clear hconv
    obtain ⟨k, hk, rfl, hb, hr⟩ := hrel
    by_cases hlt : k < s.size
    · have hkl : k < s.data.toList.length := by rw [hL.out]; exact hlt
      have hkt : k < ((s.data.toList.take k).map swp ++ s.data.toList.drop k).length := by rw [lenF _ _ _ (by omega)]; exact hkl
      obtain ⟨hc, hf⟩ := hr k hkt
      rw [getF _ _ _ hkl hkt] at hc
      have hset := hr.set k hkt (swp s.data.toList[k])
      rw [setF _ _ _ hkl] at hset
      have hkeep := keepF swp s.data.toList k hkl
      generalize s.data.toList[k] = c at *
      have hc256 : c.toNat < 256 := c.toNat_lt
      by_cases h1 : (97 : Int) ≤ c.toNat ∧ (c.toNat : Int) ≤ 122
      · rw [swp_small c h1] at hset
        obtain ⟨h1, h2⟩ := h1
        have HS : Hid (BRow _ _ _) := hset
        clear hset hkeep hr hr1
        go_wp2
        go_roundw
        case rel => exact ⟨k + 1, by omega, by go_num, hb.setCell (Nat.le_refl _) _, HS.out⟩
        case measure => simp [intOf]; omega
      · by_cases h2 : (65 : Int) ≤ c.toNat ∧ (c.toNat : Int) ≤ 90
        · rw [swp_big c h2] at hset
          obtain ⟨h2, h3⟩ := h2
          have HS : Hid (BRow _ _ _) := hset
          have h4 : ¬ (97 : Int) ≤ c.toNat := by omega
          clear hset hkeep hr hr1 h1
          go_wp2
          go_roundw
          case rel => exact ⟨k + 1, by omega, by go_num, hb.setCell (Nat.le_refl _) _, HS.out⟩
          case measure => simp [intOf]; omega
        · have hke := hkeep (swp_keep c h1 h2)
          have HS : Hid (BRow wr w.heap.size (List.map swp (List.take (k + 1) s.data.toList) ++ List.drop (k + 1) s.data.toList)) := by rw [hke]; exact hr
          clear hset hkeep hr hr1 hke
          by_cases h3 : (97 : Int) ≤ c.toNat
          · have h4 : ¬ (c.toNat : Int) ≤ 122 := fun h => h1 ⟨h3, h⟩
            have h5 : (65 : Int) ≤ c.toNat := by omega
            have h6 : ¬ (c.toNat : Int) ≤ 90 := by omega
            clear h1 h2
            go_wp2
            go_roundw
            case rel => exact ⟨k + 1, by omega, by go_num, hb, HS.out⟩
            case measure => simp [intOf]; omega
          · by_cases h5 : (65 : Int) ≤ c.toNat
            · have h6 : ¬ (c.toNat : Int) ≤ 90 := fun h => h2 ⟨h5, h⟩
              clear h1 h2
              go_wp2
              go_roundw
              case rel => exact ⟨k + 1, by omega, by go_num, hb, HS.out⟩
              case measure => simp [intOf]; omega
            · clear h1 h2
              go_wp2
              go_roundw
              case rel => exact ⟨k + 1, by omega, by go_num, hb, HS.out⟩
              case measure => simp [intOf]; omega
    · have hk2 : k = s.size := by omega
      subst hk2
      have hback := conv_back (P := Tryz.prog) wr 35 9 5 w.heap.size s.size cap (s.data.toList.map swp) Tryz.underlying35 Tryz.underlying5 Tryz.underlying9 (by simp) (by
        have e : List.map swp (List.take s.size s.data.toList) ++ List.drop s.size s.data.toList = s.data.toList.map swp := by
          rw [List.take_of_length_le (by rw [hL.out]; exact Nat.le_refl _), List.drop_eq_nil_of_le (by rw [hL.out]; exact Nat.le_refl _)]; simp
        rw [← e]; exact hr)
      clear hr hr1
      go_wp2
      go_ret
      exact ⟨rfl, hb⟩
end Go.Proofs.YtlebpbhaoooaaaaGreat
