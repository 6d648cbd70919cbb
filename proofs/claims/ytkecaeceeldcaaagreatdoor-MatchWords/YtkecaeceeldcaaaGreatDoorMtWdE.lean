import Derived.Test.YtkecaeceeldcaaaGreatDoorMtWdS
import Derived.Test.YtkecaeceeldcaaaGreatDoorMtWdD
import Derived.Test.YtkecaeceeldcaaaGreatDoorMtLbA
import Derived.BigQuiet
namespace Go.Proofs.YtkecaeceeldcaaaGreatDoor
open Go.RowKit
open MtFldM (swp)
namespace Wd
set_option linter.unusedVariables false

set_option maxRecDepth 100000 in
set_option maxHeartbeats 2000000 in
theorem swapped_any (s : ByteArray) (w : World) (hm : s.size ≤ maxLen) :
    Calls Tryz.prog 17 #[.string s] w fun e w' => e = .returned (.string (S (s.data.toList.map swp))) ∧ Below w.heap.size w w' := by
  unfold maxLen at hm
  have hL : Hid (s.data.toList.length = s.size) := size_l s
  obtain ⟨W1, cap, hconv, hb1, hz1, hr1⟩ := conv_bytes (P := Tryz.prog) w 9 44 5 s Tryz.underlying9 Tryz.underlying44 Tryz.underlying5
  go_enter Tryz.func17, Tryz.ntmps17
  go_wp2
  go_loopw [4] (fun i wr => ∃ k : Nat, k ≤ s.size ∧ i = .int .i64 k ∧ Below w.heap.size w wr ∧ BRow wr w.heap.size ((s.data.toList.take k).map swp ++ s.data.toList.drop k)) (fun i _ => s.size - (intOf i).toNat)
  case atStart => exact ⟨0, Nat.zero_le _, rfl, hb1, by simpa using hr1⟩
  case round =>
    clear hconv
    obtain ⟨k, hk, rfl, hb, hr⟩ := hrel
    by_cases hlt : k < s.size
    · have hkl : k < s.data.toList.length := by rw [hL.out]; exact hlt
      have hkt : k < ((s.data.toList.take k).map swp ++ s.data.toList.drop k).length := by rw [lenF _ _ _ (by omega)]; exact hkl
      obtain ⟨hc, hf⟩ := hr k hkt
      rw [getF _ _ _ hkl hkt] at hc
      have hset := hr.set k hkt (swp s.data.toList[k])
      rw [setF _ _ _ hkl] at hset
      have hkeep := keepF swp s.data.toList k hkl
      generalize s.data.toList[k] = c at *
      have hc256 : c.toNat < 256 := c.toNat_lt
      by_cases h1 : (97 : Int) ≤ c.toNat ∧ (c.toNat : Int) ≤ 122
      · rw [swp_small c h1] at hset
        obtain ⟨h1, h2⟩ := h1
        have HS : Hid (BRow _ _ _) := hset
        clear hset hkeep hr hr1
        go_wp2
        go_roundw
        case rel => exact ⟨k + 1, by omega, by go_num, hb.setCell (Nat.le_refl _) _, HS.out⟩
        case measure => simp [intOf]; omega
      · by_cases h2 : (65 : Int) ≤ c.toNat ∧ (c.toNat : Int) ≤ 90
        · rw [swp_big c h2] at hset
          obtain ⟨h2, h3⟩ := h2
          have HS : Hid (BRow _ _ _) := hset
          have h4 : ¬ (97 : Int) ≤ c.toNat := by omega
          clear hset hkeep hr hr1 h1
          go_wp2
          go_roundw
          case rel => exact ⟨k + 1, by omega, by go_num, hb.setCell (Nat.le_refl _) _, HS.out⟩
          case measure => simp [intOf]; omega
        · have hke := hkeep (swp_keep c h1 h2)
          have HS : Hid (BRow wr w.heap.size (List.map swp (List.take (k + 1) s.data.toList) ++ List.drop (k + 1) s.data.toList)) := by rw [hke]; exact hr
          clear hset hkeep hr hr1 hke
          by_cases h3 : (97 : Int) ≤ c.toNat
          · have h4 : ¬ (c.toNat : Int) ≤ 122 := fun h => h1 ⟨h3, h⟩
            have h5 : (65 : Int) ≤ c.toNat := by omega
            have h6 : ¬ (c.toNat : Int) ≤ 90 := by omega
            clear h1 h2
            go_wp2
            go_roundw
            case rel => exact ⟨k + 1, by omega, by go_num, hb, HS.out⟩
            case measure => simp [intOf]; omega
          · by_cases h5 : (65 : Int) ≤ c.toNat
            · have h6 : ¬ (c.toNat : Int) ≤ 90 := fun h => h2 ⟨h5, h⟩
              clear h1 h2
              go_wp2
              go_roundw
              case rel => exact ⟨k + 1, by omega, by go_num, hb, HS.out⟩
              case measure => simp [intOf]; omega
            · clear h1 h2
              go_wp2
              go_roundw
              case rel => exact ⟨k + 1, by omega, by go_num, hb, HS.out⟩
              case measure => simp [intOf]; omega
    · have hk2 : k = s.size := by omega
      subst hk2
      have hback := conv_back (P := Tryz.prog) wr 44 9 5 w.heap.size s.size cap (s.data.toList.map swp) Tryz.underlying44 Tryz.underlying5 Tryz.underlying9 (by simp) (by
        have e : List.map swp (List.take s.size s.data.toList) ++ List.drop s.size s.data.toList = s.data.toList.map swp := by
          rw [List.take_of_length_le (by rw [hL.out]; exact Nat.le_refl _), List.drop_eq_nil_of_le (by rw [hL.out]; exact Nat.le_refl _)]; simp
        rw [← e]; exact hr)
      clear hr hr1
      go_wp2
      go_ret
      exact ⟨rfl, hb⟩

theorem truth_any (b : Bool) (w : World) : Calls Tryz.prog 18 #[.bool b] w fun e w' => e = .returned (.int .i64 (if b then 2 else 0)) ∧ w' = w := by
  cases b
  · go_enter Tryz.func18, Tryz.ntmps18
    go_wp2_with fail
    go_ret
    exact ⟨rfl, rfl⟩
  · go_enter Tryz.func18, Tryz.ntmps18
    go_wp2_with fail
    go_ret
    exact ⟨rfl, rfl⟩
theorem lb_wt (l : List UInt8) : Wt (Lb.fx l 20) := by
  refine ⟨by simp [Lb.fx], fun c hc => ?_⟩
  unfold Lb.fx at hc
  rcases List.mem_cons.1 hc with rfl | hc
  · decide
  · obtain ⟨d, _, rfl⟩ := List.mem_map.1 hc
    rw [Lb.lbT_val]
    omega
theorem lb_len (l : List UInt8) : (Lb.fx l 20).length ≤ 21 := by have := Lb.fx_size l 20 (Nat.le_refl _); rwa [S_size] at this
theorem SS (l k : List UInt8) : S l ++ S k = S (l ++ k) := Lb.S_app4 l k
set_option maxHeartbeats 1000000 in
theorem wd_pack (m : Int) (w : World) (hM : MaxL m w) {x y z : List UInt8} (hx : Wt x) (hy : Wt y) (hz : Wt z) (lx : x.length ≤ 21) (ly : y.length ≤ 21) (lz : z.length ≤ 21) :
    ∃ (X Y Z SX SY V1 V2 V3 V4 V Q P WW : ByteArray) (b : Bool), (S x = X ∧ S y = Y ∧ S z = Z) ∧
      ((∀ W, Hid (Calls Tryz.prog 17 #[.string X] W fun e w' => e = .returned (.string SX) ∧ Below W.heap.size W w')) ∧
      (∀ W, Hid (Calls Tryz.prog 17 #[.string Y] W fun e w' => e = .returned (.string SY) ∧ Below W.heap.size W w'))) ∧
      (((⟨#[32]⟩ : ByteArray) ++ SX = V1 ∧ V1 ++ (⟨#[9]⟩ : ByteArray) = V2 ∧ V2 ++ Y = V3 ∧ V3 ++ (⟨#[32, 32]⟩ : ByteArray) = V4 ∧ V4 ++ Z = V) ∧ (X ++ (⟨#[32]⟩ : ByteArray) = Q ∧ Q ++ Y = P ∧ X ++ Y = WW)) ∧
      ((¬ 1 + SX.size > 9223372036854775807 ∧ ¬ V1.size + 1 > 9223372036854775807 ∧ ¬ V2.size + Y.size > 9223372036854775807 ∧ ¬ V3.size + 2 > 9223372036854775807 ∧ ¬ V4.size + Z.size > 9223372036854775807) ∧ (¬ X.size + 1 > 9223372036854775807 ∧ ¬ Q.size + Y.size > 9223372036854775807 ∧ ¬ X.size + Y.size > 9223372036854775807)) ∧
      (¬ WW.toList = X.toList ∧ ¬ WW.toList = Y.toList ∧ decide (WW.toList = Z.toList) = b) ∧
      ((∀ W, Below w.heap.size w W → Hid (Calls Tryz.prog 9 #[.int .i64 30, .int .i64 1, .string V, .string Q] W fun e w' => e = .returned (.int .i64 2) ∧ Below W.heap.size W w')) ∧
      (∀ W, Below w.heap.size w W → Hid (Calls Tryz.prog 9 #[.int .i64 30, .int .i64 1, .string V, .string SY] W fun e w' => e = .returned (.int .i64 2) ∧ Below W.heap.size W w')) ∧
      (∀ W, Below w.heap.size w W → Hid (Calls Tryz.prog 9 #[.int .i64 30, .int .i64 2, .string V, .string Z] W fun e w' => e = .returned (.int .i64 2) ∧ Below W.heap.size W w')) ∧
      (∀ W, Below w.heap.size w W → Hid (Calls Tryz.prog 9 #[.int .i64 30, .int .i64 1, .string V, .string WW] W fun e w' => e = .returned (.int .i64 (if b then 2 else 0)) ∧ Below W.heap.size W w')) ∧
      (∀ W, Below w.heap.size w W → Hid (Calls Tryz.prog 9 #[.int .i64 30, .int .i64 1, .string V, .string P] W fun e w' => e = .returned (.int .i64 1) ∧ Below W.heap.size W w')) ∧
      (∀ W, Below w.heap.size w W → Hid (Calls Tryz.prog 9 #[.int .i64 30, .int .i64 1, .string V, .string ⟨#[32, 32]⟩] W fun e w' => e = .returned (.int .i64 1) ∧ Below W.heap.size W w')) ∧
      (∀ W, Below w.heap.size w W → Hid (Calls Tryz.prog 9 #[.int .i64 30, .int .i64 1, .string ⟨#[]⟩, .string X] W fun e w' => e = .returned (.int .i64 0) ∧ Below W.heap.size W w'))) := by
  have lv : (rowV x y z).length ≤ 1048576 := by unfold rowV; simp; omega
  have hlx : (x ++ y).length ≤ 1048576 := by simp; omega
  refine ⟨S x, S y, S z, S (x.map swp), S (y.map swp), S (32 :: x.map swp), S (32 :: (x.map swp ++ [9])), S (32 :: (x.map swp ++ 9 :: y)), S (32 :: (x.map swp ++ 9 :: (y ++ [32, 32]))), S (rowV x y z), S (x ++ [32]), S (x ++ 32 :: y), S (x ++ y), decide (x ++ y = z), ⟨rfl, rfl, rfl⟩, ⟨fun W => ?_, fun W => ?_⟩, ⟨⟨?_, ?_, ?_, ?_, ?_⟩, ?_, ?_, ?_⟩, ⟨⟨?_, ?_, ?_, ?_, ?_⟩, ?_, ?_, ?_⟩, ⟨?_, ?_, ?_⟩, fun W hb => ?_, fun W hb => ?_, fun W hb => ?_, fun W hb => ?_, fun W hb => ?_, fun W hb => ?_, fun W hb => ?_⟩
  · have := swapped_any (S x) W (by rw [S_size]; unfold maxLen; omega)
    rwa [S_l] at this
  · have := swapped_any (S y) W (by rw [S_size]; unfold maxLen; omega)
    rwa [S_l] at this
  · exact SS [32] _
  · exact (SS (32 :: x.map swp) [9]).trans (by simp)
  · exact (SS (32 :: (x.map swp ++ [9])) y).trans (by simp)
  · exact (SS (32 :: (x.map swp ++ 9 :: y)) [32, 32]).trans (by simp)
  · exact (SS (32 :: (x.map swp ++ 9 :: (y ++ [32, 32]))) z).trans (by simp [rowV])
  · exact SS x [32]
  · exact (SS (x ++ [32]) y).trans (by simp)
  · exact SS x y
  · rw [S_size]; simp; omega
  · rw [S_size]; simp; omega
  · rw [S_size, S_size]; simp; omega
  · rw [S_size]; simp; omega
  · rw [S_size, S_size]; simp; omega
  · rw [S_size]; simp; omega
  · rw [S_size, S_size]; simp; omega
  · rw [S_size, S_size]; omega
  · rw [Lib.toList_data, Lib.toList_data, S_l, S_l]
    intro h
    have := congrArg List.length h
    have hp := List.length_pos_iff.2 hy.1
    rw [List.length_append] at this; omega
  · rw [Lib.toList_data, Lib.toList_data, S_l, S_l]
    intro h
    have := congrArg List.length h
    have hp := List.length_pos_iff.2 hx.1
    rw [List.length_append] at this; omega
  · rw [Lib.toList_data, Lib.toList_data, S_l, S_l]
  · have := byWord_any m 1 rfl (rowV x y z) (x ++ [32]) lv (by simp; omega) W (hM.below hb)
    rwa [ans_x hx hy hz] at this
  · have := byWord_any m 1 rfl (rowV x y z) (y.map swp) lv (by simp; omega) W (hM.below hb)
    rwa [ans_y hx hy hz] at this
  · have := byWord_any m 2 rfl (rowV x y z) z lv (by omega) W (hM.below hb)
    rwa [ans_z hx hy hz] at this
  · have := byWord_any m 1 rfl (rowV x y z) (x ++ y) lv hlx W (hM.below hb)
    have hp := List.length_pos_iff.2 hy.1
    have hq := List.length_pos_iff.2 hx.1
    have e1 : decide (x ++ y = x) = false := decide_eq_false fun h => by have := congrArg List.length h; rw [List.length_append] at this; omega
    have e2 : decide (x ++ y = y) = false := decide_eq_false fun h => by have := congrArg List.length h; rw [List.length_append] at this; omega
    rwa [ans_w hx hy hz, e1, e2, Bool.false_or, Bool.false_or] at this
  · have := byWord_any m 1 rfl (rowV x y z) (x ++ 32 :: y) lv (by simp; omega) W (hM.below hb)
    rwa [ans_xy hx hy hz] at this
  · have := byWord_any m 1 rfl (rowV x y z) [32, 32] lv (by decide) W (hM.below hb)
    rwa [ans_sp hx hy hz] at this
  · have := byWord_any m 1 rfl [] x (by decide) (by omega) W (hM.below hb)
    rwa [ans_no hx] at this
end Wd
end Go.Proofs.YtkecaeceeldcaaaGreatDoor
