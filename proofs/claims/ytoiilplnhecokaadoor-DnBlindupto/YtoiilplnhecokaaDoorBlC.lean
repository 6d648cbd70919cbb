import Derived.Test.YtoiilplnhecokaaDoorBlB
namespace Go.Proofs.YtoiilplnhecokaaDoor
namespace Bl
open Go.RowKit
open TextMath (fold lo normal)
set_option linter.unusedVariables false

theorem bk_len (f : Bool) (l : List UInt8) : (l.flatMap (bk f)).length ≤ 3 * l.length := by
  induction l with
  | nil => simp
  | cons c l ih =>
    rw [List.flatMap_cons, List.length_append, List.length_cons]
    have : (bk f c).length ≤ 3 := by unfold bk; split <;> simp
    omega
/-- What blanks answers. -/
def BkQ (v : ByteArray) (e : Ending) : Prop := ∃ b1 b2 b3, e = .returned (.string (S (blk b1 b2 b3 v.data.toList)))
set_option maxRecDepth 100000 in
set_option maxHeartbeats 8000000 in
theorem blanks_any (v : ByteArray) (n : Int) (w : World) (hm : v.size ≤ 1073741824) :
    Calls Tryd.prog 10 #[.string v, .int .i64 n] w fun e w' => BkQ v e ∧ Below w.heap.size w w' := by
  have hL : Hid (v.data.toList.length = v.size) := size_l v
  obtain ⟨b1, hb1⟩ : ∃ b, (bits .and .i64 n 1 == 1) = b := ⟨_, rfl⟩
  obtain ⟨b2, hb2⟩ : ∃ b, (bits .and .i64 n 2 == 2) = b := ⟨_, rfl⟩
  obtain ⟨b3, hb3⟩ : ∃ b, (bits .and .i64 n 4 == 4) = b := ⟨_, rfl⟩
  cases b1 with
  | true =>
    have H0 : Hid (BI w (.slice none 0 0) [] w) := ⟨Du.GOwn.nil _ _ _ _ _, Below.refl _ _⟩
    obtain ⟨xa, xn, xc, w1, e9, h9⟩ := bi_more H0.out [9] (by simp)
    have e9' : Hid ((Builtin.append_ #[53, 53] 53 #[.slice none 0 0, .slice (some ⟨w.heap.size, 0, none⟩) 1 1]).run Tryd.prog (w.alloc (.cells #[.int .u8 9] 5)) = .ok (.slice xa xn xc) w1) := e9
    have H1 : Hid (BI w (.slice xa xn xc) [9] w1) := h9
    clear e9 h9 H0
    go_enter Tryd.func10, Tryd.ntmps10
    go_wp2_with (at_builtin; refine wp_app _ rfl _ _ _ rfl rfl _ _ _ _ rfl rfl e9'.out ?_; clear e9')
    go_loopw [5, 6] (fun lv iv wr => ∃ (k : Nat) (za : Option Addr) (zn zc : Nat), k ≤ v.size ∧ iv = .int .i64 (k : Int) ∧ lv = .slice za zn zc ∧ Hid (BI w (.slice za zn zc) ([9] ++ (v.data.toList.take k).flatMap (bk b2)) wr)) (fun _ iv _ => v.size - (intOf iv).toNat)
    case atStart => exact ⟨0, _, _, _, Nat.zero_le _, rfl, rfl, by simpa using H1⟩
    case round =>
      obtain ⟨k, za, zn, zc, hk, rfl, rfl, hI⟩ := hrel
      have k0 : (0 : Int) ≤ (k : Int) := Int.natCast_nonneg _
      by_cases hlt : k < v.size
      · have k1 : (k : Int) < (v.size : Int) := Int.ofNat_lt.2 hlt
        have hkl : k < v.data.toList.length := by rw [hL.out]; exact hlt
        have htk : (v.data.toList.take (k + 1)).flatMap (bk b2) = (v.data.toList.take k).flatMap (bk b2) ++ bk b2 v.data.toList[k] := by rw [List.take_succ_eq_append_getElem hkl, List.flatMap_append]; simp
        have hvk : (v[k]'hlt) = v.data.toList[k] := by simp; rfl
        obtain ⟨c, hc⟩ : ∃ c, v.data.toList[k] = c := ⟨_, rfl⟩
        rw [hc] at htk hvk
        have hln : ([9] ++ (v.data.toList.take k).flatMap (bk b2)).length ≤ 4294967296 := by
          have := bk_len b2 (v.data.toList.take k)
          rw [List.length_append]
          rw [List.length_take] at this
          simp only [List.length_cons, List.length_nil]
          omega
        obtain ⟨L, hLL⟩ : ∃ L, [9] ++ (v.data.toList.take k).flatMap (bk b2) = L := ⟨_, rfl⟩
        rw [hLL] at hI hln
        have F : Hid (k < v.size ∧ [9] ++ (v.data.toList.take (k + 1)).flatMap (bk b2) = L ++ bk b2 c ∧ L.length ≤ 4294967296) := ⟨hlt, by rw [htk, ← List.append_assoc, hLL], hln⟩
        obtain ⟨ya, yn, yc, w5, e9, h9⟩ := bi_more hI.out [c] (by simp only [List.length_cons, List.length_nil]; omega)
        have e9' : Hid ((Builtin.append_ #[53, 53] 53 #[.slice za zn zc, .slice (some ⟨wr.heap.size, 0, none⟩) 1 1]).run Tryd.prog (wr.alloc (.cells #[.int .u8 (c.toNat : Int)] 5)) = .ok (.slice ya yn yc) w5) := e9
        have H5 : Hid (BI w (.slice ya yn yc) (L ++ [c]) w5) := h9
        clear e9 h9 hI htk hc hln hLL hkl hk
        go_upto_region 8 with (at_builtin; refine wp_app _ rfl _ _ _ rfl rfl _ _ _ _ rfl rfl e9'.out ?_; clear e9')
        by_cases hc32 : (c.toNat : Int) = 32
        · have hcc : c = 32 := UInt8.toNat_inj.1 (by have : (32 : UInt8).toNat = 32 := rfl; omega)
          cases b2 with
          | true =>
            obtain ⟨za2, zn2, zc2, w6, e9, h9⟩ := bi_more H5.out [10, 32] (by have := F.out.2.2; simp only [List.length_append, List.length_cons, List.length_nil]; omega)
            have e9' : Hid ((Builtin.append_ #[53, 53] 53 #[.slice ya yn yc, .slice (some ⟨w5.heap.size, 0, none⟩) 2 2]).run Tryd.prog (w5.alloc (.cells #[.int .u8 10, .int .u8 32] 5)) = .ok (.slice za2 zn2 zc2) w6) := e9
            have H6 : Hid (BI w (.slice za2 zn2 zc2) (L ++ bk true c) w6) := by
              have e : L ++ bk true c = (L ++ [c]) ++ [10, 32] := by subst hcc; simp [bk]
              rw [e]; exact h9
            clear e9 h9 H5
            go_wp2_with (at_builtin; refine wp_app _ rfl _ _ _ rfl rfl _ _ _ _ rfl rfl e9'.out ?_; clear e9')
            go_roundw
            case rel => exact ⟨k + 1, _, _, _, F.out.1, by simp, rfl, by rw [F.out.2.1]; exact H6⟩
            case measure => have := F.out.1; simp [intOf]; omega
          | false =>
            have H6 : Hid (BI w (.slice ya yn yc) (L ++ bk false c) w5) := by
              have e : L ++ bk false c = L ++ [c] := by simp [bk]
              rw [e]; exact H5
            clear H5
            go_wp2_with fail
            go_roundw
            case rel => exact ⟨k + 1, _, _, _, F.out.1, by simp, rfl, by rw [F.out.2.1]; exact H6⟩
            case measure => have := F.out.1; simp [intOf]; omega
        · have H6 : Hid (BI w (.slice ya yn yc) (L ++ bk b2 c) w5) := by
            have e : L ++ bk b2 c = L ++ [c] := by unfold bk; rw [if_neg (fun h => hc32 (by rw [h.1]; rfl))]
            rw [e]; exact H5
          clear H5
          go_wp2_with fail
          go_roundw
          case rel => exact ⟨k + 1, _, _, _, F.out.1, by simp, rfl, by rw [F.out.2.1]; exact H6⟩
          case measure => have := F.out.1; simp [intOf]; omega
      · have hk2 : k = v.size := by omega
        subst hk2
        have k1 : ¬ (v.size : Int) < (v.size : Int) := by omega
        have ht : v.data.toList.take v.size = v.data.toList := by rw [List.take_of_length_le (by rw [hL.out]; exact Nat.le_refl _)]
        rw [ht] at hI
        have hln : ([9] ++ v.data.toList.flatMap (bk b2)).length ≤ 4294967296 := by
          have := bk_len b2 v.data.toList
          have := hL.out
          rw [List.length_append]
          simp only [List.length_cons, List.length_nil]
          omega
        cases b3 with
        | true =>
          obtain ⟨ya, yn, yc, w5, e9, h9⟩ := bi_more hI.out [32, 13] (by simp only [List.length_cons, List.length_nil]; omega)
          have e9' : Hid ((Builtin.append_ #[53, 53] 53 #[.slice za zn zc, .slice (some ⟨wr.heap.size, 0, none⟩) 2 2]).run Tryd.prog (wr.alloc (.cells #[.int .u8 32, .int .u8 13] 5)) = .ok (.slice ya yn yc) w5) := e9
          have hcv := bi_conv h9
          have H5 : Hid (Below w.heap.size w w5) := h9.2
          have e : [9] ++ v.data.toList.flatMap (bk b2) ++ [32, 13] = blk true b2 true v.data.toList := by simp [blk]
          rw [e] at hcv
          clear e9 h9 hI hln ht
          go_wp2_with (at_builtin; refine wp_app _ rfl _ _ _ rfl rfl _ _ _ _ rfl rfl e9'.out ?_; clear e9')
          go_ret
          exact ⟨⟨true, b2, true, rfl⟩, H5.out⟩
        | false =>
          have hcv := bi_conv hI.out
          have H5 : Hid (Below w.heap.size w wr) := hI.out.2
          have e : [9] ++ v.data.toList.flatMap (bk b2) = blk true b2 false v.data.toList := by simp [blk]
          rw [e] at hcv
          clear hI hln ht
          go_wp2_with fail
          go_ret
          exact ⟨⟨true, b2, false, rfl⟩, H5.out⟩
  | false =>
    have H1 : Hid (BI w (.slice none 0 0) [] w) := ⟨Du.GOwn.nil _ _ _ _ _, Below.refl _ _⟩
    go_enter Tryd.func10, Tryd.ntmps10
    go_wp2_with fail
    go_loopw [5, 6] (fun lv iv wr => ∃ (k : Nat) (za : Option Addr) (zn zc : Nat), k ≤ v.size ∧ iv = .int .i64 (k : Int) ∧ lv = .slice za zn zc ∧ Hid (BI w (.slice za zn zc) (([] : List UInt8) ++ (v.data.toList.take k).flatMap (bk b2)) wr)) (fun _ iv _ => v.size - (intOf iv).toNat)
    case atStart => exact ⟨0, _, _, _, Nat.zero_le _, rfl, rfl, by simpa using H1⟩
    case round =>
      obtain ⟨k, za, zn, zc, hk, rfl, rfl, hI⟩ := hrel
      have k0 : (0 : Int) ≤ (k : Int) := Int.natCast_nonneg _
      by_cases hlt : k < v.size
      · have k1 : (k : Int) < (v.size : Int) := Int.ofNat_lt.2 hlt
        have hkl : k < v.data.toList.length := by rw [hL.out]; exact hlt
        have htk : (v.data.toList.take (k + 1)).flatMap (bk b2) = (v.data.toList.take k).flatMap (bk b2) ++ bk b2 v.data.toList[k] := by rw [List.take_succ_eq_append_getElem hkl, List.flatMap_append]; simp
        have hvk : (v[k]'hlt) = v.data.toList[k] := by simp; rfl
        obtain ⟨c, hc⟩ : ∃ c, v.data.toList[k] = c := ⟨_, rfl⟩
        rw [hc] at htk hvk
        have hln : (([] : List UInt8) ++ (v.data.toList.take k).flatMap (bk b2)).length ≤ 4294967296 := by
          have := bk_len b2 (v.data.toList.take k)
          rw [List.length_append]
          rw [List.length_take] at this
          rw [List.length_nil]
          omega
        obtain ⟨L, hLL⟩ : ∃ L, ([] : List UInt8) ++ (v.data.toList.take k).flatMap (bk b2) = L := ⟨_, rfl⟩
        rw [hLL] at hI hln
        have F : Hid (k < v.size ∧ ([] : List UInt8) ++ (v.data.toList.take (k + 1)).flatMap (bk b2) = L ++ bk b2 c ∧ L.length ≤ 4294967296) := ⟨hlt, by rw [htk, ← List.append_assoc, hLL], hln⟩
        obtain ⟨ya, yn, yc, w5, e9, h9⟩ := bi_more hI.out [c] (by simp only [List.length_cons, List.length_nil]; omega)
        have e9' : Hid ((Builtin.append_ #[53, 53] 53 #[.slice za zn zc, .slice (some ⟨wr.heap.size, 0, none⟩) 1 1]).run Tryd.prog (wr.alloc (.cells #[.int .u8 (c.toNat : Int)] 5)) = .ok (.slice ya yn yc) w5) := e9
        have H5 : Hid (BI w (.slice ya yn yc) (L ++ [c]) w5) := h9
        clear e9 h9 hI htk hc hln hLL hkl hk
        go_upto_region 8 with (at_builtin; refine wp_app _ rfl _ _ _ rfl rfl _ _ _ _ rfl rfl e9'.out ?_; clear e9')
        by_cases hc32 : (c.toNat : Int) = 32
        · have hcc : c = 32 := UInt8.toNat_inj.1 (by have : (32 : UInt8).toNat = 32 := rfl; omega)
          cases b2 with
          | true =>
            obtain ⟨za2, zn2, zc2, w6, e9, h9⟩ := bi_more H5.out [10, 32] (by have := F.out.2.2; simp only [List.length_append, List.length_cons, List.length_nil]; omega)
            have e9' : Hid ((Builtin.append_ #[53, 53] 53 #[.slice ya yn yc, .slice (some ⟨w5.heap.size, 0, none⟩) 2 2]).run Tryd.prog (w5.alloc (.cells #[.int .u8 10, .int .u8 32] 5)) = .ok (.slice za2 zn2 zc2) w6) := e9
            have H6 : Hid (BI w (.slice za2 zn2 zc2) (L ++ bk true c) w6) := by
              have e : L ++ bk true c = (L ++ [c]) ++ [10, 32] := by subst hcc; simp [bk]
              rw [e]; exact h9
            clear e9 h9 H5
            go_wp2_with (at_builtin; refine wp_app _ rfl _ _ _ rfl rfl _ _ _ _ rfl rfl e9'.out ?_; clear e9')
            go_roundw
            case rel => exact ⟨k + 1, _, _, _, F.out.1, by simp, rfl, by rw [F.out.2.1]; exact H6⟩
            case measure => have := F.out.1; simp [intOf]; omega
          | false =>
            have H6 : Hid (BI w (.slice ya yn yc) (L ++ bk false c) w5) := by
              have e : L ++ bk false c = L ++ [c] := by simp [bk]
              rw [e]; exact H5
            clear H5
            go_wp2_with fail
            go_roundw
            case rel => exact ⟨k + 1, _, _, _, F.out.1, by simp, rfl, by rw [F.out.2.1]; exact H6⟩
            case measure => have := F.out.1; simp [intOf]; omega
        · have H6 : Hid (BI w (.slice ya yn yc) (L ++ bk b2 c) w5) := by
            have e : L ++ bk b2 c = L ++ [c] := by unfold bk; rw [if_neg (fun h => hc32 (by rw [h.1]; rfl))]
            rw [e]; exact H5
          clear H5
          go_wp2_with fail
          go_roundw
          case rel => exact ⟨k + 1, _, _, _, F.out.1, by simp, rfl, by rw [F.out.2.1]; exact H6⟩
          case measure => have := F.out.1; simp [intOf]; omega
      · have hk2 : k = v.size := by omega
        subst hk2
        have k1 : ¬ (v.size : Int) < (v.size : Int) := by omega
        have ht : v.data.toList.take v.size = v.data.toList := by rw [List.take_of_length_le (by rw [hL.out]; exact Nat.le_refl _)]
        rw [ht] at hI
        have hln : (([] : List UInt8) ++ v.data.toList.flatMap (bk b2)).length ≤ 4294967296 := by
          have := bk_len b2 v.data.toList
          have := hL.out
          rw [List.length_append]
          rw [List.length_nil]
          omega
        cases b3 with
        | true =>
          obtain ⟨ya, yn, yc, w5, e9, h9⟩ := bi_more hI.out [32, 13] (by simp only [List.length_cons, List.length_nil]; omega)
          have e9' : Hid ((Builtin.append_ #[53, 53] 53 #[.slice za zn zc, .slice (some ⟨wr.heap.size, 0, none⟩) 2 2]).run Tryd.prog (wr.alloc (.cells #[.int .u8 32, .int .u8 13] 5)) = .ok (.slice ya yn yc) w5) := e9
          have hcv := bi_conv h9
          have H5 : Hid (Below w.heap.size w w5) := h9.2
          have e : ([] : List UInt8) ++ v.data.toList.flatMap (bk b2) ++ [32, 13] = blk false b2 true v.data.toList := by simp [blk]
          rw [e] at hcv
          clear e9 h9 hI hln ht
          go_wp2_with (at_builtin; refine wp_app _ rfl _ _ _ rfl rfl _ _ _ _ rfl rfl e9'.out ?_; clear e9')
          go_ret
          exact ⟨⟨false, b2, true, rfl⟩, H5.out⟩
        | false =>
          have hcv := bi_conv hI.out
          have H5 : Hid (Below w.heap.size w wr) := hI.out.2
          have e : ([] : List UInt8) ++ v.data.toList.flatMap (bk b2) = blk false b2 false v.data.toList := by simp [blk]
          rw [e] at hcv
          clear hI hln ht
          go_wp2_with fail
          go_ret
          exact ⟨⟨false, b2, false, rfl⟩, H5.out⟩
end Bl
end Go.Proofs.YtoiilplnhecokaaDoor
