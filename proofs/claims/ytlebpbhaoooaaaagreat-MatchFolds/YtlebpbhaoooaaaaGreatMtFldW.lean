import Derived.Test.YtlebpbhaoooaaaaGreatMtSwp
namespace Go.Proofs.YtlebpbhaoooaaaaGreat
open Go.RowKit
open TextMath (fold squeeze check)
open MtFldM (swp)
set_option linter.unusedVariables false
set_option linter.unusedSimpArgs false

set_option maxRecDepth 100000 in
set_option maxHeartbeats 4000000 in
theorem matchFolds_tt (v : ByteArray) (m : Int) (w : World) (hM : MaxL m w) (hv : v.size ≤ 140737488355328) (hx : exOk v.data.toList = true) (ha : asc (fold v.data.toList) = true) : Calls Tryz.prog 3 #[.string v] w fun e w' => e = .returned (.bool true) ∧ Below w.heap.size w w' := by
  have hsw : ∀ W, Hid (Calls Tryz.prog 5 #[.string v] W fun e w' => e = .returned (.string (S (v.data.toList.map swp))) ∧ Below W.heap.size W w') := fun W => swapped_any v W (by unfold maxLen; omega)
  have hfg : ∀ W, Hid (Calls Tryz.prog 7 #[.string v] W fun e w' => e = .returned (.string (S (fx v.data.toList 100))) ∧ Below W.heap.size W w') := fun W => figure_any v W (by omega)
  obtain ⟨l, hl⟩ : ∃ l, v.data.toList = l := ⟨_, rfl⟩
  have hV : S l = v := by rw [← hl]; exact S_eq _ _ (by rw [S_l])
  have hlen : l.length = v.size := by rw [← hl]; exact size_l v
  rw [hl] at hsw hfg hx ha
  have hfd : dig (fx l 100) := dgT_dig _
  have hfl : (fx l 100).length ≤ 200 := by unfold fx; simp; omega
  obtain ⟨hE1, hE2, hE3, hE4, hE5, hE6, hE7, hP, hN⟩ := folds_pack m l (fx l 100) (by omega) hfd hfl
  rw [hx] at hE3 hE4
  rw [ha] at hE7
  simp only [if_true, Bool.false_eq_true, if_false] at hE3 hE4 hE7
  have hE5' := hE5 hx
  have hE6' := hE6 hx
  clear hE5 hE6
  have c1 : (⟨#[32, 9]⟩ : ByteArray) ++ S l = S ([32, 9] ++ l) := S_app [32, 9] l
  have c2 : S ([32, 9] ++ l) ++ (⟨#[32, 32]⟩ : ByteArray) = S ([32, 9] ++ (l ++ [32, 32])) := by rw [← List.append_assoc]; exact S_app _ [32, 32]
  have c3 : (⟨#[10]⟩ : ByteArray) ++ S (l.map swp) = S ([10] ++ l.map swp) := S_app [10] _
  have c4 : S ([10] ++ l.map swp) ++ (⟨#[32]⟩ : ByteArray) = S ([10] ++ (l.map swp ++ [32])) := by rw [← List.append_assoc]; exact S_app _ [32]
  have c5 : (⟨#[43, 49, 32]⟩ : ByteArray) ++ S (fx l 100) = S ([43, 49, 32] ++ fx l 100) := S_app [43, 49, 32] _
  have c6 : (⟨#[43, 49, 45]⟩ : ByteArray) ++ S (fx l 100) = S ([43, 49, 45] ++ fx l 100) := S_app [43, 49, 45] _
  have c7 : S ([43, 49, 45] ++ fx l 100) ++ (⟨#[32]⟩ : ByteArray) = S ([43, 49, 45] ++ (fx l 100 ++ [32])) := by rw [← List.append_assoc]; exact S_app _ [32]
  have c8 : (⟨#[55]⟩ : ByteArray) ++ S (fx l 100) = S ([55] ++ fx l 100) := S_app [55] _
  have c9 : (⟨#[55, 32]⟩ : ByteArray) ++ S (fx l 100) = S ([55, 32] ++ fx l 100) := S_app [55, 32] _
  have hq : ((S l).toList == (S (l.map swp)).toList) = decide (l = l.map swp) := by rw [toL_S, toL_S]; rw [Bool.eq_iff_iff]; simp
  have s1 : ¬ 2 + (S l).size > 9223372036854775807 := by rw [S_size]; omega
  have s2 : ¬ (S ([32, 9] ++ l)).size + 2 > 9223372036854775807 := by rw [S_size]; simp; omega
  have s3 : ¬ 1 + (S (l.map swp)).size > 9223372036854775807 := by rw [S_size, List.length_map]; omega
  have s4 : ¬ (S ([10] ++ l.map swp)).size + 1 > 9223372036854775807 := by rw [S_size]; simp; omega
  have s5 : ¬ 3 + (S (fx l 100)).size > 9223372036854775807 := by rw [S_size]; omega
  have s6 : ¬ (S ([43, 49, 45] ++ fx l 100)).size + 1 > 9223372036854775807 := by rw [S_size]; simp; omega
  have s7 : ¬ 1 + (S (fx l 100)).size > 9223372036854775807 := by rw [S_size]; omega
  have s8 : ¬ 2 + (S (fx l 100)).size > 9223372036854775807 := by rw [S_size]; omega
  rw [show S [97, 66] = (⟨#[97, 66]⟩ : ByteArray) from rfl, show S [65, 98] = (⟨#[65, 98]⟩ : ByteArray) from rfl] at hE1 hE2
  have hT := fun W => (show Hid (Calls Tryz.prog 6 #[.bool (decide (l = l.map swp))] W fun e w' => e = .returned (.int .i64 (if decide (l = l.map swp) then 2 else 0)) ∧ w' = W) from truth_any _ W)
  generalize decide (l = l.map swp) = bq at *
  rw [← hV]
  rw [← hV] at hsw hfg
  generalize S ([32, 9] ++ (l ++ [32, 32])) = A2 at *
  generalize S ([32, 9] ++ l) = A1 at *
  generalize S ([10] ++ (l.map swp ++ [32])) = B2 at *
  generalize S ([10] ++ l.map swp) = B1 at *
  generalize S ([43, 49, 32] ++ fx l 100) = C1 at *
  generalize S ([43, 49, 45] ++ (fx l 100 ++ [32])) = D2 at *
  generalize S ([43, 49, 45] ++ fx l 100) = D1 at *
  generalize S ([55] ++ fx l 100) = G1 at *
  generalize S ([55, 32] ++ fx l 100) = G2 at *
  generalize S (fx l 100) = F at *
  generalize S (l.map swp) = X at *
  generalize S l = V at *
  clear hV hlen hl hfd hfl hv hx ha
  have hM' : Hid (MaxL m w) := hM
  clear hM
  have o0 : Hid (Below w.heap.size w w) := Below.refl _ _
  cases bq
  · simp only [if_true, Bool.false_eq_true, if_false] at hE4 hT
    go_enter Tryz.func3, Tryz.ntmps3
    go_wp2_with fail
    refine (hE1 _).out.mono ?_
    rintro e w1 ⟨rfl, hb⟩
    have o1 : Hid (Below w.heap.size w w1) := o0.out.trans (hb.mono o0.out.size)
    clear hb hE1
    go_wp2_with fail
    refine (hE2 _).out.mono ?_
    rintro e w2 ⟨rfl, hb⟩
    have o2 : Hid (Below w.heap.size w w2) := o1.out.trans (hb.mono o1.out.size)
    clear hb hE2
    go_wp2_with fail
    refine (hsw _).out.mono ?_
    rintro e w3 ⟨rfl, hb⟩
    have o3 : Hid (Below w.heap.size w w3) := o2.out.trans (hb.mono o2.out.size)
    clear hb hsw
    go_wp2_with fail
    refine (hE3 _).out.mono ?_
    rintro e w4 ⟨rfl, hb⟩
    have o4 : Hid (Below w.heap.size w w4) := o3.out.trans (hb.mono o3.out.size)
    clear hb hE3
    go_wp2_with fail
    refine (hE4 _).out.mono ?_
    rintro e w5 ⟨rfl, hb⟩
    have o5 : Hid (Below w.heap.size w w5) := o4.out.trans (hb.mono o4.out.size)
    clear hb hE4
    go_wp2_with fail
    refine (hT _).out.mono ?_
    rintro e w' ⟨rfl, rfl⟩
    go_wp2_with fail
    refine (hE5' _).out.mono ?_
    rintro e w6 ⟨rfl, hb⟩
    have o6 : Hid (Below w.heap.size w w6) := o5.out.trans (hb.mono o5.out.size)
    clear hb hE5'
    go_wp2_with fail
    refine (hE6' _).out.mono ?_
    rintro e w7 ⟨rfl, hb⟩
    have o7 : Hid (Below w.heap.size w w7) := o6.out.trans (hb.mono o6.out.size)
    clear hb hE6'
    go_wp2_with fail
    refine (hE7 _).out.mono ?_
    rintro e w8 ⟨rfl, hb⟩
    have o8 : Hid (Below w.heap.size w w8) := o7.out.trans (hb.mono o7.out.size)
    clear hb hE7
    go_wp2_with fail
    refine (hfg _).out.mono ?_
    rintro e w9 ⟨rfl, hb⟩
    have o9 : Hid (Below w.heap.size w w9) := o8.out.trans (hb.mono o8.out.size)
    clear hb
    go_wp2_with fail
    refine (hfg _).out.mono ?_
    rintro e w10 ⟨rfl, hb⟩
    have o10 : Hid (Below w.heap.size w w10) := o9.out.trans (hb.mono o9.out.size)
    clear hb
    go_wp2_with fail
    refine (hP _ (hM'.out.below o10.out)).out.mono ?_
    rintro e w11 ⟨rfl, hb⟩
    have o11 : Hid (Below w.heap.size w w11) := o10.out.trans (hb.mono o10.out.size)
    clear hb hP
    go_wp2_with fail
    refine (hfg _).out.mono ?_
    rintro e w12 ⟨rfl, hb⟩
    have o12 : Hid (Below w.heap.size w w12) := o11.out.trans (hb.mono o11.out.size)
    clear hb
    go_wp2_with fail
    refine (hfg _).out.mono ?_
    rintro e w13 ⟨rfl, hb⟩
    have o13 : Hid (Below w.heap.size w w13) := o12.out.trans (hb.mono o12.out.size)
    clear hb
    go_wp2_with fail
    refine (hN _ (hM'.out.below o13.out)).out.mono ?_
    rintro e w14 ⟨rfl, hb⟩
    have o14 : Hid (Below w.heap.size w w14) := o13.out.trans (hb.mono o13.out.size)
    clear hb hN
    go_wp2_with fail
    go_ret
    exact ⟨by first | rfl | simp, o14.out⟩
  · simp only [if_true, Bool.false_eq_true, if_false] at hE4 hT
    go_enter Tryz.func3, Tryz.ntmps3
    go_wp2_with fail
    refine (hE1 _).out.mono ?_
    rintro e w1 ⟨rfl, hb⟩
    have o1 : Hid (Below w.heap.size w w1) := o0.out.trans (hb.mono o0.out.size)
    clear hb hE1
    go_wp2_with fail
    refine (hE2 _).out.mono ?_
    rintro e w2 ⟨rfl, hb⟩
    have o2 : Hid (Below w.heap.size w w2) := o1.out.trans (hb.mono o1.out.size)
    clear hb hE2
    go_wp2_with fail
    refine (hsw _).out.mono ?_
    rintro e w3 ⟨rfl, hb⟩
    have o3 : Hid (Below w.heap.size w w3) := o2.out.trans (hb.mono o2.out.size)
    clear hb hsw
    go_wp2_with fail
    refine (hE3 _).out.mono ?_
    rintro e w4 ⟨rfl, hb⟩
    have o4 : Hid (Below w.heap.size w w4) := o3.out.trans (hb.mono o3.out.size)
    clear hb hE3
    go_wp2_with fail
    refine (hE4 _).out.mono ?_
    rintro e w5 ⟨rfl, hb⟩
    have o5 : Hid (Below w.heap.size w w5) := o4.out.trans (hb.mono o4.out.size)
    clear hb hE4
    go_wp2_with fail
    refine (hT _).out.mono ?_
    rintro e w' ⟨rfl, rfl⟩
    go_wp2_with fail
    refine (hE5' _).out.mono ?_
    rintro e w6 ⟨rfl, hb⟩
    have o6 : Hid (Below w.heap.size w w6) := o5.out.trans (hb.mono o5.out.size)
    clear hb hE5'
    go_wp2_with fail
    refine (hE6' _).out.mono ?_
    rintro e w7 ⟨rfl, hb⟩
    have o7 : Hid (Below w.heap.size w w7) := o6.out.trans (hb.mono o6.out.size)
    clear hb hE6'
    go_wp2_with fail
    refine (hE7 _).out.mono ?_
    rintro e w8 ⟨rfl, hb⟩
    have o8 : Hid (Below w.heap.size w w8) := o7.out.trans (hb.mono o7.out.size)
    clear hb hE7
    go_wp2_with fail
    refine (hfg _).out.mono ?_
    rintro e w9 ⟨rfl, hb⟩
    have o9 : Hid (Below w.heap.size w w9) := o8.out.trans (hb.mono o8.out.size)
    clear hb
    go_wp2_with fail
    refine (hfg _).out.mono ?_
    rintro e w10 ⟨rfl, hb⟩
    have o10 : Hid (Below w.heap.size w w10) := o9.out.trans (hb.mono o9.out.size)
    clear hb
    go_wp2_with fail
    refine (hP _ (hM'.out.below o10.out)).out.mono ?_
    rintro e w11 ⟨rfl, hb⟩
    have o11 : Hid (Below w.heap.size w w11) := o10.out.trans (hb.mono o10.out.size)
    clear hb hP
    go_wp2_with fail
    refine (hfg _).out.mono ?_
    rintro e w12 ⟨rfl, hb⟩
    have o12 : Hid (Below w.heap.size w w12) := o11.out.trans (hb.mono o11.out.size)
    clear hb
    go_wp2_with fail
    refine (hfg _).out.mono ?_
    rintro e w13 ⟨rfl, hb⟩
    have o13 : Hid (Below w.heap.size w w13) := o12.out.trans (hb.mono o12.out.size)
    clear hb
    go_wp2_with fail
    refine (hN _ (hM'.out.below o13.out)).out.mono ?_
    rintro e w14 ⟨rfl, hb⟩
    have o14 : Hid (Below w.heap.size w w14) := o13.out.trans (hb.mono o13.out.size)
    clear hb hN
    go_wp2_with fail
    go_ret
    exact ⟨by first | rfl | simp, o14.out⟩
set_option maxRecDepth 100000 in
set_option maxHeartbeats 4000000 in
theorem matchFolds_tf (v : ByteArray) (m : Int) (w : World) (hM : MaxL m w) (hv : v.size ≤ 140737488355328) (hx : exOk v.data.toList = true) (ha : asc (fold v.data.toList) = false) : Calls Tryz.prog 3 #[.string v] w fun e w' => e = .returned (.bool true) ∧ Below w.heap.size w w' := by
  have hsw : ∀ W, Hid (Calls Tryz.prog 5 #[.string v] W fun e w' => e = .returned (.string (S (v.data.toList.map swp))) ∧ Below W.heap.size W w') := fun W => swapped_any v W (by unfold maxLen; omega)
  have hfg : ∀ W, Hid (Calls Tryz.prog 7 #[.string v] W fun e w' => e = .returned (.string (S (fx v.data.toList 100))) ∧ Below W.heap.size W w') := fun W => figure_any v W (by omega)
  obtain ⟨l, hl⟩ : ∃ l, v.data.toList = l := ⟨_, rfl⟩
  have hV : S l = v := by rw [← hl]; exact S_eq _ _ (by rw [S_l])
  have hlen : l.length = v.size := by rw [← hl]; exact size_l v
  rw [hl] at hsw hfg hx ha
  have hfd : dig (fx l 100) := dgT_dig _
  have hfl : (fx l 100).length ≤ 200 := by unfold fx; simp; omega
  obtain ⟨hE1, hE2, hE3, hE4, hE5, hE6, hE7, hP, hN⟩ := folds_pack m l (fx l 100) (by omega) hfd hfl
  rw [hx] at hE3 hE4
  rw [ha] at hE7
  simp only [if_true, Bool.false_eq_true, if_false] at hE3 hE4 hE7
  have hE5' := hE5 hx
  have hE6' := hE6 hx
  clear hE5 hE6
  have c1 : (⟨#[32, 9]⟩ : ByteArray) ++ S l = S ([32, 9] ++ l) := S_app [32, 9] l
  have c2 : S ([32, 9] ++ l) ++ (⟨#[32, 32]⟩ : ByteArray) = S ([32, 9] ++ (l ++ [32, 32])) := by rw [← List.append_assoc]; exact S_app _ [32, 32]
  have c3 : (⟨#[10]⟩ : ByteArray) ++ S (l.map swp) = S ([10] ++ l.map swp) := S_app [10] _
  have c4 : S ([10] ++ l.map swp) ++ (⟨#[32]⟩ : ByteArray) = S ([10] ++ (l.map swp ++ [32])) := by rw [← List.append_assoc]; exact S_app _ [32]
  have c5 : (⟨#[43, 49, 32]⟩ : ByteArray) ++ S (fx l 100) = S ([43, 49, 32] ++ fx l 100) := S_app [43, 49, 32] _
  have c6 : (⟨#[43, 49, 45]⟩ : ByteArray) ++ S (fx l 100) = S ([43, 49, 45] ++ fx l 100) := S_app [43, 49, 45] _
  have c7 : S ([43, 49, 45] ++ fx l 100) ++ (⟨#[32]⟩ : ByteArray) = S ([43, 49, 45] ++ (fx l 100 ++ [32])) := by rw [← List.append_assoc]; exact S_app _ [32]
  have c8 : (⟨#[55]⟩ : ByteArray) ++ S (fx l 100) = S ([55] ++ fx l 100) := S_app [55] _
  have c9 : (⟨#[55, 32]⟩ : ByteArray) ++ S (fx l 100) = S ([55, 32] ++ fx l 100) := S_app [55, 32] _
  have hq : ((S l).toList == (S (l.map swp)).toList) = decide (l = l.map swp) := by rw [toL_S, toL_S]; rw [Bool.eq_iff_iff]; simp
  have s1 : ¬ 2 + (S l).size > 9223372036854775807 := by rw [S_size]; omega
  have s2 : ¬ (S ([32, 9] ++ l)).size + 2 > 9223372036854775807 := by rw [S_size]; simp; omega
  have s3 : ¬ 1 + (S (l.map swp)).size > 9223372036854775807 := by rw [S_size, List.length_map]; omega
  have s4 : ¬ (S ([10] ++ l.map swp)).size + 1 > 9223372036854775807 := by rw [S_size]; simp; omega
  have s5 : ¬ 3 + (S (fx l 100)).size > 9223372036854775807 := by rw [S_size]; omega
  have s6 : ¬ (S ([43, 49, 45] ++ fx l 100)).size + 1 > 9223372036854775807 := by rw [S_size]; simp; omega
  have s7 : ¬ 1 + (S (fx l 100)).size > 9223372036854775807 := by rw [S_size]; omega
  have s8 : ¬ 2 + (S (fx l 100)).size > 9223372036854775807 := by rw [S_size]; omega
  rw [show S [97, 66] = (⟨#[97, 66]⟩ : ByteArray) from rfl, show S [65, 98] = (⟨#[65, 98]⟩ : ByteArray) from rfl] at hE1 hE2
  have hT := fun W => (show Hid (Calls Tryz.prog 6 #[.bool (decide (l = l.map swp))] W fun e w' => e = .returned (.int .i64 (if decide (l = l.map swp) then 2 else 0)) ∧ w' = W) from truth_any _ W)
  generalize decide (l = l.map swp) = bq at *
  rw [← hV]
  rw [← hV] at hsw hfg
  generalize S ([32, 9] ++ (l ++ [32, 32])) = A2 at *
  generalize S ([32, 9] ++ l) = A1 at *
  generalize S ([10] ++ (l.map swp ++ [32])) = B2 at *
  generalize S ([10] ++ l.map swp) = B1 at *
  generalize S ([43, 49, 32] ++ fx l 100) = C1 at *
  generalize S ([43, 49, 45] ++ (fx l 100 ++ [32])) = D2 at *
  generalize S ([43, 49, 45] ++ fx l 100) = D1 at *
  generalize S ([55] ++ fx l 100) = G1 at *
  generalize S ([55, 32] ++ fx l 100) = G2 at *
  generalize S (fx l 100) = F at *
  generalize S (l.map swp) = X at *
  generalize S l = V at *
  clear hV hlen hl hfd hfl hv hx ha
  have hM' : Hid (MaxL m w) := hM
  clear hM
  have o0 : Hid (Below w.heap.size w w) := Below.refl _ _
  cases bq
  · simp only [if_true, Bool.false_eq_true, if_false] at hE4 hT
    go_enter Tryz.func3, Tryz.ntmps3
    go_wp2_with fail
    refine (hE1 _).out.mono ?_
    rintro e w1 ⟨rfl, hb⟩
    have o1 : Hid (Below w.heap.size w w1) := o0.out.trans (hb.mono o0.out.size)
    clear hb hE1
    go_wp2_with fail
    refine (hE2 _).out.mono ?_
    rintro e w2 ⟨rfl, hb⟩
    have o2 : Hid (Below w.heap.size w w2) := o1.out.trans (hb.mono o1.out.size)
    clear hb hE2
    go_wp2_with fail
    refine (hsw _).out.mono ?_
    rintro e w3 ⟨rfl, hb⟩
    have o3 : Hid (Below w.heap.size w w3) := o2.out.trans (hb.mono o2.out.size)
    clear hb hsw
    go_wp2_with fail
    refine (hE3 _).out.mono ?_
    rintro e w4 ⟨rfl, hb⟩
    have o4 : Hid (Below w.heap.size w w4) := o3.out.trans (hb.mono o3.out.size)
    clear hb hE3
    go_wp2_with fail
    refine (hE4 _).out.mono ?_
    rintro e w5 ⟨rfl, hb⟩
    have o5 : Hid (Below w.heap.size w w5) := o4.out.trans (hb.mono o4.out.size)
    clear hb hE4
    go_wp2_with fail
    refine (hT _).out.mono ?_
    rintro e w' ⟨rfl, rfl⟩
    go_wp2_with fail
    refine (hE5' _).out.mono ?_
    rintro e w6 ⟨rfl, hb⟩
    have o6 : Hid (Below w.heap.size w w6) := o5.out.trans (hb.mono o5.out.size)
    clear hb hE5'
    go_wp2_with fail
    refine (hE6' _).out.mono ?_
    rintro e w7 ⟨rfl, hb⟩
    have o7 : Hid (Below w.heap.size w w7) := o6.out.trans (hb.mono o6.out.size)
    clear hb hE6'
    go_wp2_with fail
    refine (hE7 _).out.mono ?_
    rintro e w8 ⟨rfl, hb⟩
    have o8 : Hid (Below w.heap.size w w8) := o7.out.trans (hb.mono o7.out.size)
    clear hb hE7
    go_wp2_with fail
    refine (hfg _).out.mono ?_
    rintro e w9 ⟨rfl, hb⟩
    have o9 : Hid (Below w.heap.size w w9) := o8.out.trans (hb.mono o8.out.size)
    clear hb
    go_wp2_with fail
    refine (hfg _).out.mono ?_
    rintro e w10 ⟨rfl, hb⟩
    have o10 : Hid (Below w.heap.size w w10) := o9.out.trans (hb.mono o9.out.size)
    clear hb
    go_wp2_with fail
    refine (hP _ (hM'.out.below o10.out)).out.mono ?_
    rintro e w11 ⟨rfl, hb⟩
    have o11 : Hid (Below w.heap.size w w11) := o10.out.trans (hb.mono o10.out.size)
    clear hb hP
    go_wp2_with fail
    refine (hfg _).out.mono ?_
    rintro e w12 ⟨rfl, hb⟩
    have o12 : Hid (Below w.heap.size w w12) := o11.out.trans (hb.mono o11.out.size)
    clear hb
    go_wp2_with fail
    refine (hfg _).out.mono ?_
    rintro e w13 ⟨rfl, hb⟩
    have o13 : Hid (Below w.heap.size w w13) := o12.out.trans (hb.mono o12.out.size)
    clear hb
    go_wp2_with fail
    refine (hN _ (hM'.out.below o13.out)).out.mono ?_
    rintro e w14 ⟨rfl, hb⟩
    have o14 : Hid (Below w.heap.size w w14) := o13.out.trans (hb.mono o13.out.size)
    clear hb hN
    go_wp2_with fail
    go_ret
    exact ⟨by first | rfl | simp, o14.out⟩
  · simp only [if_true, Bool.false_eq_true, if_false] at hE4 hT
    go_enter Tryz.func3, Tryz.ntmps3
    go_wp2_with fail
    refine (hE1 _).out.mono ?_
    rintro e w1 ⟨rfl, hb⟩
    have o1 : Hid (Below w.heap.size w w1) := o0.out.trans (hb.mono o0.out.size)
    clear hb hE1
    go_wp2_with fail
    refine (hE2 _).out.mono ?_
    rintro e w2 ⟨rfl, hb⟩
    have o2 : Hid (Below w.heap.size w w2) := o1.out.trans (hb.mono o1.out.size)
    clear hb hE2
    go_wp2_with fail
    refine (hsw _).out.mono ?_
    rintro e w3 ⟨rfl, hb⟩
    have o3 : Hid (Below w.heap.size w w3) := o2.out.trans (hb.mono o2.out.size)
    clear hb hsw
    go_wp2_with fail
    refine (hE3 _).out.mono ?_
    rintro e w4 ⟨rfl, hb⟩
    have o4 : Hid (Below w.heap.size w w4) := o3.out.trans (hb.mono o3.out.size)
    clear hb hE3
    go_wp2_with fail
    refine (hE4 _).out.mono ?_
    rintro e w5 ⟨rfl, hb⟩
    have o5 : Hid (Below w.heap.size w w5) := o4.out.trans (hb.mono o4.out.size)
    clear hb hE4
    go_wp2_with fail
    refine (hT _).out.mono ?_
    rintro e w' ⟨rfl, rfl⟩
    go_wp2_with fail
    refine (hE5' _).out.mono ?_
    rintro e w6 ⟨rfl, hb⟩
    have o6 : Hid (Below w.heap.size w w6) := o5.out.trans (hb.mono o5.out.size)
    clear hb hE5'
    go_wp2_with fail
    refine (hE6' _).out.mono ?_
    rintro e w7 ⟨rfl, hb⟩
    have o7 : Hid (Below w.heap.size w w7) := o6.out.trans (hb.mono o6.out.size)
    clear hb hE6'
    go_wp2_with fail
    refine (hE7 _).out.mono ?_
    rintro e w8 ⟨rfl, hb⟩
    have o8 : Hid (Below w.heap.size w w8) := o7.out.trans (hb.mono o7.out.size)
    clear hb hE7
    go_wp2_with fail
    refine (hfg _).out.mono ?_
    rintro e w9 ⟨rfl, hb⟩
    have o9 : Hid (Below w.heap.size w w9) := o8.out.trans (hb.mono o8.out.size)
    clear hb
    go_wp2_with fail
    refine (hfg _).out.mono ?_
    rintro e w10 ⟨rfl, hb⟩
    have o10 : Hid (Below w.heap.size w w10) := o9.out.trans (hb.mono o9.out.size)
    clear hb
    go_wp2_with fail
    refine (hP _ (hM'.out.below o10.out)).out.mono ?_
    rintro e w11 ⟨rfl, hb⟩
    have o11 : Hid (Below w.heap.size w w11) := o10.out.trans (hb.mono o10.out.size)
    clear hb hP
    go_wp2_with fail
    refine (hfg _).out.mono ?_
    rintro e w12 ⟨rfl, hb⟩
    have o12 : Hid (Below w.heap.size w w12) := o11.out.trans (hb.mono o11.out.size)
    clear hb
    go_wp2_with fail
    refine (hfg _).out.mono ?_
    rintro e w13 ⟨rfl, hb⟩
    have o13 : Hid (Below w.heap.size w w13) := o12.out.trans (hb.mono o12.out.size)
    clear hb
    go_wp2_with fail
    refine (hN _ (hM'.out.below o13.out)).out.mono ?_
    rintro e w14 ⟨rfl, hb⟩
    have o14 : Hid (Below w.heap.size w w14) := o13.out.trans (hb.mono o13.out.size)
    clear hb hN
    go_wp2_with fail
    go_ret
    exact ⟨by first | rfl | simp, o14.out⟩
set_option maxRecDepth 100000 in
set_option maxHeartbeats 4000000 in
theorem matchFolds_ft (v : ByteArray) (m : Int) (w : World) (hM : MaxL m w) (hv : v.size ≤ 140737488355328) (hx : exOk v.data.toList = false) (ha : asc (fold v.data.toList) = true) : Calls Tryz.prog 3 #[.string v] w fun e w' => e = .returned (.bool true) ∧ Below w.heap.size w w' := by
  have hsw : ∀ W, Hid (Calls Tryz.prog 5 #[.string v] W fun e w' => e = .returned (.string (S (v.data.toList.map swp))) ∧ Below W.heap.size W w') := fun W => swapped_any v W (by unfold maxLen; omega)
  have hfg : ∀ W, Hid (Calls Tryz.prog 7 #[.string v] W fun e w' => e = .returned (.string (S (fx v.data.toList 100))) ∧ Below W.heap.size W w') := fun W => figure_any v W (by omega)
  obtain ⟨l, hl⟩ : ∃ l, v.data.toList = l := ⟨_, rfl⟩
  have hV : S l = v := by rw [← hl]; exact S_eq _ _ (by rw [S_l])
  have hlen : l.length = v.size := by rw [← hl]; exact size_l v
  rw [hl] at hsw hfg hx ha
  have hfd : dig (fx l 100) := dgT_dig _
  have hfl : (fx l 100).length ≤ 200 := by unfold fx; simp; omega
  obtain ⟨hE1, hE2, hE3, hE4, hE5, hE6, hE7, hP, hN⟩ := folds_pack m l (fx l 100) (by omega) hfd hfl
  rw [hx] at hE3 hE4
  rw [ha] at hE7
  simp only [if_true, Bool.false_eq_true, if_false] at hE3 hE4 hE7
  have hE5' := hE5
  have hE6' := hE6
  clear hE5 hE6
  have c1 : (⟨#[32, 9]⟩ : ByteArray) ++ S l = S ([32, 9] ++ l) := S_app [32, 9] l
  have c2 : S ([32, 9] ++ l) ++ (⟨#[32, 32]⟩ : ByteArray) = S ([32, 9] ++ (l ++ [32, 32])) := by rw [← List.append_assoc]; exact S_app _ [32, 32]
  have c3 : (⟨#[10]⟩ : ByteArray) ++ S (l.map swp) = S ([10] ++ l.map swp) := S_app [10] _
  have c4 : S ([10] ++ l.map swp) ++ (⟨#[32]⟩ : ByteArray) = S ([10] ++ (l.map swp ++ [32])) := by rw [← List.append_assoc]; exact S_app _ [32]
  have c5 : (⟨#[43, 49, 32]⟩ : ByteArray) ++ S (fx l 100) = S ([43, 49, 32] ++ fx l 100) := S_app [43, 49, 32] _
  have c6 : (⟨#[43, 49, 45]⟩ : ByteArray) ++ S (fx l 100) = S ([43, 49, 45] ++ fx l 100) := S_app [43, 49, 45] _
  have c7 : S ([43, 49, 45] ++ fx l 100) ++ (⟨#[32]⟩ : ByteArray) = S ([43, 49, 45] ++ (fx l 100 ++ [32])) := by rw [← List.append_assoc]; exact S_app _ [32]
  have c8 : (⟨#[55]⟩ : ByteArray) ++ S (fx l 100) = S ([55] ++ fx l 100) := S_app [55] _
  have c9 : (⟨#[55, 32]⟩ : ByteArray) ++ S (fx l 100) = S ([55, 32] ++ fx l 100) := S_app [55, 32] _
  have hq : ((S l).toList == (S (l.map swp)).toList) = decide (l = l.map swp) := by rw [toL_S, toL_S]; rw [Bool.eq_iff_iff]; simp
  have s1 : ¬ 2 + (S l).size > 9223372036854775807 := by rw [S_size]; omega
  have s2 : ¬ (S ([32, 9] ++ l)).size + 2 > 9223372036854775807 := by rw [S_size]; simp; omega
  have s3 : ¬ 1 + (S (l.map swp)).size > 9223372036854775807 := by rw [S_size, List.length_map]; omega
  have s4 : ¬ (S ([10] ++ l.map swp)).size + 1 > 9223372036854775807 := by rw [S_size]; simp; omega
  have s5 : ¬ 3 + (S (fx l 100)).size > 9223372036854775807 := by rw [S_size]; omega
  have s6 : ¬ (S ([43, 49, 45] ++ fx l 100)).size + 1 > 9223372036854775807 := by rw [S_size]; simp; omega
  have s7 : ¬ 1 + (S (fx l 100)).size > 9223372036854775807 := by rw [S_size]; omega
  have s8 : ¬ 2 + (S (fx l 100)).size > 9223372036854775807 := by rw [S_size]; omega
  rw [show S [97, 66] = (⟨#[97, 66]⟩ : ByteArray) from rfl, show S [65, 98] = (⟨#[65, 98]⟩ : ByteArray) from rfl] at hE1 hE2
  have hT := fun W => (show Hid (Calls Tryz.prog 6 #[.bool (decide (l = l.map swp))] W fun e w' => e = .returned (.int .i64 (if decide (l = l.map swp) then 2 else 0)) ∧ w' = W) from truth_any _ W)
  generalize decide (l = l.map swp) = bq at *
  rw [← hV]
  rw [← hV] at hsw hfg
  generalize S ([32, 9] ++ (l ++ [32, 32])) = A2 at *
  generalize S ([32, 9] ++ l) = A1 at *
  generalize S ([10] ++ (l.map swp ++ [32])) = B2 at *
  generalize S ([10] ++ l.map swp) = B1 at *
  generalize S ([43, 49, 32] ++ fx l 100) = C1 at *
  generalize S ([43, 49, 45] ++ (fx l 100 ++ [32])) = D2 at *
  generalize S ([43, 49, 45] ++ fx l 100) = D1 at *
  generalize S ([55] ++ fx l 100) = G1 at *
  generalize S ([55, 32] ++ fx l 100) = G2 at *
  generalize S (fx l 100) = F at *
  generalize S (l.map swp) = X at *
  generalize S l = V at *
  clear hV hlen hl hfd hfl hv hx ha
  have hM' : Hid (MaxL m w) := hM
  clear hM
  have o0 : Hid (Below w.heap.size w w) := Below.refl _ _
  clear hT hq hE5' hE6'
  go_enter Tryz.func3, Tryz.ntmps3
  go_wp2_with fail
  refine (hE1 _).out.mono ?_
  rintro e w1 ⟨rfl, hb⟩
  have o1 : Hid (Below w.heap.size w w1) := o0.out.trans (hb.mono o0.out.size)
  clear hb hE1
  go_wp2_with fail
  refine (hE2 _).out.mono ?_
  rintro e w2 ⟨rfl, hb⟩
  have o2 : Hid (Below w.heap.size w w2) := o1.out.trans (hb.mono o1.out.size)
  clear hb hE2
  go_wp2_with fail
  refine (hsw _).out.mono ?_
  rintro e w3 ⟨rfl, hb⟩
  have o3 : Hid (Below w.heap.size w w3) := o2.out.trans (hb.mono o2.out.size)
  clear hb hsw
  go_wp2_with fail
  refine (hE3 _).out.mono ?_
  rintro e w4 ⟨rfl, hb⟩
  have o4 : Hid (Below w.heap.size w w4) := o3.out.trans (hb.mono o3.out.size)
  clear hb hE3
  go_wp2_with fail
  refine (hE4 _).out.mono ?_
  rintro e w5 ⟨rfl, hb⟩
  have o5 : Hid (Below w.heap.size w w5) := o4.out.trans (hb.mono o4.out.size)
  clear hb hE4
  go_wp2_with fail
  refine (hE7 _).out.mono ?_
  rintro e w6 ⟨rfl, hb⟩
  have o6 : Hid (Below w.heap.size w w6) := o5.out.trans (hb.mono o5.out.size)
  clear hb hE7
  go_wp2_with fail
  refine (hfg _).out.mono ?_
  rintro e w7 ⟨rfl, hb⟩
  have o7 : Hid (Below w.heap.size w w7) := o6.out.trans (hb.mono o6.out.size)
  clear hb
  go_wp2_with fail
  refine (hfg _).out.mono ?_
  rintro e w8 ⟨rfl, hb⟩
  have o8 : Hid (Below w.heap.size w w8) := o7.out.trans (hb.mono o7.out.size)
  clear hb
  go_wp2_with fail
  refine (hP _ (hM'.out.below o8.out)).out.mono ?_
  rintro e w9 ⟨rfl, hb⟩
  have o9 : Hid (Below w.heap.size w w9) := o8.out.trans (hb.mono o8.out.size)
  clear hb hP
  go_wp2_with fail
  refine (hfg _).out.mono ?_
  rintro e w10 ⟨rfl, hb⟩
  have o10 : Hid (Below w.heap.size w w10) := o9.out.trans (hb.mono o9.out.size)
  clear hb
  go_wp2_with fail
  refine (hfg _).out.mono ?_
  rintro e w11 ⟨rfl, hb⟩
  have o11 : Hid (Below w.heap.size w w11) := o10.out.trans (hb.mono o10.out.size)
  clear hb
  go_wp2_with fail
  refine (hN _ (hM'.out.below o11.out)).out.mono ?_
  rintro e w12 ⟨rfl, hb⟩
  have o12 : Hid (Below w.heap.size w w12) := o11.out.trans (hb.mono o11.out.size)
  clear hb hN
  go_wp2_with fail
  go_ret
  exact ⟨by first | rfl | simp, o12.out⟩
set_option maxRecDepth 100000 in
set_option maxHeartbeats 4000000 in
theorem matchFolds_ff (v : ByteArray) (m : Int) (w : World) (hM : MaxL m w) (hv : v.size ≤ 140737488355328) (hx : exOk v.data.toList = false) (ha : asc (fold v.data.toList) = false) : Calls Tryz.prog 3 #[.string v] w fun e w' => e = .returned (.bool true) ∧ Below w.heap.size w w' := by
  have hsw : ∀ W, Hid (Calls Tryz.prog 5 #[.string v] W fun e w' => e = .returned (.string (S (v.data.toList.map swp))) ∧ Below W.heap.size W w') := fun W => swapped_any v W (by unfold maxLen; omega)
  have hfg : ∀ W, Hid (Calls Tryz.prog 7 #[.string v] W fun e w' => e = .returned (.string (S (fx v.data.toList 100))) ∧ Below W.heap.size W w') := fun W => figure_any v W (by omega)
  obtain ⟨l, hl⟩ : ∃ l, v.data.toList = l := ⟨_, rfl⟩
  have hV : S l = v := by rw [← hl]; exact S_eq _ _ (by rw [S_l])
  have hlen : l.length = v.size := by rw [← hl]; exact size_l v
  rw [hl] at hsw hfg hx ha
  have hfd : dig (fx l 100) := dgT_dig _
  have hfl : (fx l 100).length ≤ 200 := by unfold fx; simp; omega
  obtain ⟨hE1, hE2, hE3, hE4, hE5, hE6, hE7, hP, hN⟩ := folds_pack m l (fx l 100) (by omega) hfd hfl
  rw [hx] at hE3 hE4
  rw [ha] at hE7
  simp only [if_true, Bool.false_eq_true, if_false] at hE3 hE4 hE7
  have hE5' := hE5
  have hE6' := hE6
  clear hE5 hE6
  have c1 : (⟨#[32, 9]⟩ : ByteArray) ++ S l = S ([32, 9] ++ l) := S_app [32, 9] l
  have c2 : S ([32, 9] ++ l) ++ (⟨#[32, 32]⟩ : ByteArray) = S ([32, 9] ++ (l ++ [32, 32])) := by rw [← List.append_assoc]; exact S_app _ [32, 32]
  have c3 : (⟨#[10]⟩ : ByteArray) ++ S (l.map swp) = S ([10] ++ l.map swp) := S_app [10] _
  have c4 : S ([10] ++ l.map swp) ++ (⟨#[32]⟩ : ByteArray) = S ([10] ++ (l.map swp ++ [32])) := by rw [← List.append_assoc]; exact S_app _ [32]
  have c5 : (⟨#[43, 49, 32]⟩ : ByteArray) ++ S (fx l 100) = S ([43, 49, 32] ++ fx l 100) := S_app [43, 49, 32] _
  have c6 : (⟨#[43, 49, 45]⟩ : ByteArray) ++ S (fx l 100) = S ([43, 49, 45] ++ fx l 100) := S_app [43, 49, 45] _
  have c7 : S ([43, 49, 45] ++ fx l 100) ++ (⟨#[32]⟩ : ByteArray) = S ([43, 49, 45] ++ (fx l 100 ++ [32])) := by rw [← List.append_assoc]; exact S_app _ [32]
  have c8 : (⟨#[55]⟩ : ByteArray) ++ S (fx l 100) = S ([55] ++ fx l 100) := S_app [55] _
  have c9 : (⟨#[55, 32]⟩ : ByteArray) ++ S (fx l 100) = S ([55, 32] ++ fx l 100) := S_app [55, 32] _
  have hq : ((S l).toList == (S (l.map swp)).toList) = decide (l = l.map swp) := by rw [toL_S, toL_S]; rw [Bool.eq_iff_iff]; simp
  have s1 : ¬ 2 + (S l).size > 9223372036854775807 := by rw [S_size]; omega
  have s2 : ¬ (S ([32, 9] ++ l)).size + 2 > 9223372036854775807 := by rw [S_size]; simp; omega
  have s3 : ¬ 1 + (S (l.map swp)).size > 9223372036854775807 := by rw [S_size, List.length_map]; omega
  have s4 : ¬ (S ([10] ++ l.map swp)).size + 1 > 9223372036854775807 := by rw [S_size]; simp; omega
  have s5 : ¬ 3 + (S (fx l 100)).size > 9223372036854775807 := by rw [S_size]; omega
  have s6 : ¬ (S ([43, 49, 45] ++ fx l 100)).size + 1 > 9223372036854775807 := by rw [S_size]; simp; omega
  have s7 : ¬ 1 + (S (fx l 100)).size > 9223372036854775807 := by rw [S_size]; omega
  have s8 : ¬ 2 + (S (fx l 100)).size > 9223372036854775807 := by rw [S_size]; omega
  rw [show S [97, 66] = (⟨#[97, 66]⟩ : ByteArray) from rfl, show S [65, 98] = (⟨#[65, 98]⟩ : ByteArray) from rfl] at hE1 hE2
  have hT := fun W => (show Hid (Calls Tryz.prog 6 #[.bool (decide (l = l.map swp))] W fun e w' => e = .returned (.int .i64 (if decide (l = l.map swp) then 2 else 0)) ∧ w' = W) from truth_any _ W)
  generalize decide (l = l.map swp) = bq at *
  rw [← hV]
  rw [← hV] at hsw hfg
  generalize S ([32, 9] ++ (l ++ [32, 32])) = A2 at *
  generalize S ([32, 9] ++ l) = A1 at *
  generalize S ([10] ++ (l.map swp ++ [32])) = B2 at *
  generalize S ([10] ++ l.map swp) = B1 at *
  generalize S ([43, 49, 32] ++ fx l 100) = C1 at *
  generalize S ([43, 49, 45] ++ (fx l 100 ++ [32])) = D2 at *
  generalize S ([43, 49, 45] ++ fx l 100) = D1 at *
  generalize S ([55] ++ fx l 100) = G1 at *
  generalize S ([55, 32] ++ fx l 100) = G2 at *
  generalize S (fx l 100) = F at *
  generalize S (l.map swp) = X at *
  generalize S l = V at *
  clear hV hlen hl hfd hfl hv hx ha
  have hM' : Hid (MaxL m w) := hM
  clear hM
  have o0 : Hid (Below w.heap.size w w) := Below.refl _ _
  clear hT hq hE5' hE6'
  go_enter Tryz.func3, Tryz.ntmps3
  go_wp2_with fail
  refine (hE1 _).out.mono ?_
  rintro e w1 ⟨rfl, hb⟩
  have o1 : Hid (Below w.heap.size w w1) := o0.out.trans (hb.mono o0.out.size)
  clear hb hE1
  go_wp2_with fail
  refine (hE2 _).out.mono ?_
  rintro e w2 ⟨rfl, hb⟩
  have o2 : Hid (Below w.heap.size w w2) := o1.out.trans (hb.mono o1.out.size)
  clear hb hE2
  go_wp2_with fail
  refine (hsw _).out.mono ?_
  rintro e w3 ⟨rfl, hb⟩
  have o3 : Hid (Below w.heap.size w w3) := o2.out.trans (hb.mono o2.out.size)
  clear hb hsw
  go_wp2_with fail
  refine (hE3 _).out.mono ?_
  rintro e w4 ⟨rfl, hb⟩
  have o4 : Hid (Below w.heap.size w w4) := o3.out.trans (hb.mono o3.out.size)
  clear hb hE3
  go_wp2_with fail
  refine (hE4 _).out.mono ?_
  rintro e w5 ⟨rfl, hb⟩
  have o5 : Hid (Below w.heap.size w w5) := o4.out.trans (hb.mono o4.out.size)
  clear hb hE4
  go_wp2_with fail
  refine (hE7 _).out.mono ?_
  rintro e w6 ⟨rfl, hb⟩
  have o6 : Hid (Below w.heap.size w w6) := o5.out.trans (hb.mono o5.out.size)
  clear hb hE7
  go_wp2_with fail
  refine (hfg _).out.mono ?_
  rintro e w7 ⟨rfl, hb⟩
  have o7 : Hid (Below w.heap.size w w7) := o6.out.trans (hb.mono o6.out.size)
  clear hb
  go_wp2_with fail
  refine (hfg _).out.mono ?_
  rintro e w8 ⟨rfl, hb⟩
  have o8 : Hid (Below w.heap.size w w8) := o7.out.trans (hb.mono o7.out.size)
  clear hb
  go_wp2_with fail
  refine (hP _ (hM'.out.below o8.out)).out.mono ?_
  rintro e w9 ⟨rfl, hb⟩
  have o9 : Hid (Below w.heap.size w w9) := o8.out.trans (hb.mono o8.out.size)
  clear hb hP
  go_wp2_with fail
  refine (hfg _).out.mono ?_
  rintro e w10 ⟨rfl, hb⟩
  have o10 : Hid (Below w.heap.size w w10) := o9.out.trans (hb.mono o9.out.size)
  clear hb
  go_wp2_with fail
  refine (hfg _).out.mono ?_
  rintro e w11 ⟨rfl, hb⟩
  have o11 : Hid (Below w.heap.size w w11) := o10.out.trans (hb.mono o10.out.size)
  clear hb
  go_wp2_with fail
  refine (hN _ (hM'.out.below o11.out)).out.mono ?_
  rintro e w12 ⟨rfl, hb⟩
  have o12 : Hid (Below w.heap.size w w12) := o11.out.trans (hb.mono o11.out.size)
  clear hb hN
  go_wp2_with fail
  go_ret
  exact ⟨by first | rfl | simp, o12.out⟩
theorem matchFolds_walk (v : ByteArray) (m : Int) (w : World) (hM : MaxL m w) (hv : v.size ≤ 140737488355328) : Calls Tryz.prog 3 #[.string v] w fun e w' => e = .returned (.bool true) ∧ Below w.heap.size w w' := by
  cases hx : exOk v.data.toList <;> cases ha : asc (fold v.data.toList)
  · exact matchFolds_ff v m w hM hv hx ha
  · exact matchFolds_ft v m w hM hv hx ha
  · exact matchFolds_tf v m w hM hv hx ha
  · exact matchFolds_tt v m w hM hv hx ha
end Go.Proofs.YtlebpbhaoooaaaaGreat
