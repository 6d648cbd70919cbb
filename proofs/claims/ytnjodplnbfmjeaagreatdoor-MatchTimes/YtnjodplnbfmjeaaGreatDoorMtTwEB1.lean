import Derived.Test.YtnjodplnbfmjeaaGreatDoorMtTwD
namespace Go.Proofs.YtnjodplnbfmjeaaGreatDoor
open Go.RowKit
set_option linter.unusedVariables false
set_option linter.unusedSimpArgs false
namespace Mt

set_option maxRecDepth 100000 in
set_option maxHeartbeats 4000000 in
theorem zoneB1 (y mo d m d' m' za : Nat) (z : Int) (w : World) (hy : y < 10000) (hmo : mo < 13) (hd : d < 32) (hd31 : d' < 32) (hm : m < 1440) (hm1440 : m' < 1440) (hza1440 : za < 1440) (hs : 0 ≤ (m : Int) + z ∧ (m : Int) + z < 1440) (hd' : (d' : Int) = (d : Int)) (hm' : (m' : Int) = (m : Int) + z) (hz : 0 ≤ z) (hza : (za : Int) = z) : Calls Tryz.prog 5 #[whV (y : Int) (mo : Int) (d : Int) (m : Int) z] w fun e w' => e = .returned (.string (S (hdT y mo d' (m' / 60) (m' % 60) ([43] ++ (pad 2 (za / 60) ++ pad 2 (za % 60)))))) ∧ Below w.heap.size w w' := by
  obtain ⟨W0, hW0⟩ : ∃ W, w.alloc (.cells #[.int .i64 (y : Int), .int .i64 (mo : Int), .int .i64 (d : Int), .int .i64 (m : Int), .int .i64 z] 23) = W := ⟨_, rfl⟩
  have pw : WhV W0 w.heap.size (y : Int) (mo : Int) (d : Int) (m : Int) z := by rw [← hW0]; exact heap_alloc_last w _
  have hB0 : Hid (Below w.heap.size w W0 ∧ w.heap.size ≤ W0.heap.size) := by rw [← hW0]; exact ⟨(Below.refl _ _).alloc (Nat.le_refl _) _, by simp⟩
  have hWh : Hid (WhV W0 w.heap.size (y : Int) (mo : Int) (d : Int) (m : Int) z) := pw
  obtain ⟨⟨c0, c1, c2, c3, c4⟩, cf⟩ := pw.cells
  have hS0 : UtS W0 w.heap.size (y : Int) (mo : Int) (d : Int) (m : Int) z W0.drew := UtS.of (w0 := W0) pw ⟨rfl, rfl, rfl, Nat.le_refl _, fun _ _ => rfl⟩
  have hT : ∀ (n : Nat) (W : World), n < 100 → Hid (Calls Tryz.prog 13 #[.int .i64 (n : Int)] W fun e w' => e = .returned (.string (S (pad 2 n))) ∧ Below W.heap.size W w') := fun n W h => two_any n W h
  obtain ⟨s, hsE⟩ : ∃ s, (m : Int) + z = s := ⟨_, rfl⟩
  rw [hsE] at hs hm'
  have ws : wrap64 ((m : Int) + z) = s := by rw [← hsE]; unfold wrap64; omega
  obtain ⟨mI, emI⟩ : ∃ x : Int, x = (m' : Int) := ⟨_, rfl⟩
  obtain ⟨dI, edI⟩ : ∃ x : Int, x = (d' : Int) := ⟨_, rfl⟩
  obtain ⟨zI, ezI⟩ : ∃ x : Int, x = (za : Int) := ⟨_, rfl⟩
  have t1 : ¬ s < 0 := by omega
  have t2 : ¬ (1440 : Int) ≤ s := by omega
  have eB1 : s = mI := by omega
  have eB2 : (d : Int) = dI := by omega
  have tz : ¬ z < 0 := by omega
  have ez : z = zI := by omega
  obtain ⟨ya, hya, ya100, qya, qya2, vya, vya2⟩ := divF (n := y) (s := (y : Int)) (c := 100) (ci := 100) rfl rfl (by decide) (Nat.lt_of_lt_of_le hy (by decide))
  obtain ⟨yb, hyb, yb100, qyb, qyb2, vyb, vyb2⟩ := modF (n := y) (s := (y : Int)) (c := 100) (ci := 100) rfl rfl (by decide) (by decide)
  have es : s = (m' : Int) := by omega
  have ez2 : z = (za : Int) := by omega
  obtain ⟨ha, hha, ha100, qha, qha2, vha, vha2⟩ := divF (n := m') (s := s) (c := 60) (ci := 60) es rfl (by decide) (Nat.lt_trans hm1440 (by decide))
  obtain ⟨ma, hma, ma100, qma, qma2, vma, vma2⟩ := modF (n := m') (s := s) (c := 60) (ci := 60) es rfl (by decide) (by decide)
  obtain ⟨zq, hzq, zq100, qzq, qzq2, vzq, vzq2⟩ := divF (n := za) (s := z) (c := 60) (ci := 60) ez2 rfl (by decide) (Nat.lt_trans hza1440 (by decide))
  obtain ⟨zr, hzr, zr100, qzr, qzr2, vzr, vzr2⟩ := modF (n := za) (s := z) (c := 60) (ci := 60) ez2 rfl (by decide) (by decide)
  have mo100 : mo < 100 := Nat.lt_trans hmo (by decide)
  have d100 : d' < 100 := Nat.lt_trans hd31 (by decide)
  have hTa := fun W => hT ya W ya100
  have hnPa : (S (pad 2 ya)).size = 2 := by rw [S_size, pad2_len ya100]
  obtain ⟨Pa, hPa⟩ : ∃ x : ByteArray, S (pad 2 ya) = x := ⟨_, rfl⟩
  simp only [hPa] at hTa hnPa
  have hTb := fun W => hT yb W yb100
  have hnPb : (S (pad 2 yb)).size = 2 := by rw [S_size, pad2_len yb100]
  obtain ⟨Pb, hPb⟩ : ∃ x : ByteArray, S (pad 2 yb) = x := ⟨_, rfl⟩
  simp only [hPb] at hTb hnPb
  have hTc := fun W => hT mo W mo100
  have hnPc : (S (pad 2 mo)).size = 2 := by rw [S_size, pad2_len mo100]
  obtain ⟨Pc, hPc⟩ : ∃ x : ByteArray, S (pad 2 mo) = x := ⟨_, rfl⟩
  simp only [hPc] at hTc hnPc
  have hTh := fun W => hT ha W ha100
  have hnPh : (S (pad 2 ha)).size = 2 := by rw [S_size, pad2_len ha100]
  obtain ⟨Ph, hPh⟩ : ∃ x : ByteArray, S (pad 2 ha) = x := ⟨_, rfl⟩
  simp only [hPh] at hTh hnPh
  have hTm := fun W => hT ma W ma100
  have hnPm : (S (pad 2 ma)).size = 2 := by rw [S_size, pad2_len ma100]
  obtain ⟨Pm, hPm⟩ : ∃ x : ByteArray, S (pad 2 ma) = x := ⟨_, rfl⟩
  simp only [hPm] at hTm hnPm
  have hTq := fun W => hT zq W zq100
  have hnPq : (S (pad 2 zq)).size = 2 := by rw [S_size, pad2_len zq100]
  obtain ⟨Pq, hPq⟩ : ∃ x : ByteArray, S (pad 2 zq) = x := ⟨_, rfl⟩
  simp only [hPq] at hTq hnPq
  have hTr := fun W => hT zr W zr100
  have hnPr : (S (pad 2 zr)).size = 2 := by rw [S_size, pad2_len zr100]
  obtain ⟨Pr, hPr⟩ : ∃ x : ByteArray, S (pad 2 zr) = x := ⟨_, rfl⟩
  simp only [hPr] at hTr hnPr
  have hTe := fun W => hT d' W d100
  have hnPe : (S (pad 2 d')).size = 2 := by rw [S_size, pad2_len d100]
  obtain ⟨Pe, hPe⟩ : ∃ x : ByteArray, S (pad 2 d') = x := ⟨_, rfl⟩
  simp only [hPe] at hTe hnPe
  rw [show (d' : Int) = (d : Int) from hd'] at hTe
  have hnZ : (⟨#[43]⟩ : ByteArray).size = 1 := rfl
  obtain ⟨Z, hZ⟩ : ∃ Z : ByteArray, (⟨#[43]⟩ : ByteArray) = Z := ⟨_, rfl⟩
  rw [hZ] at hnZ
  obtain ⟨Q2, hq2⟩ : ∃ x : ByteArray, Pa ++ Pb = x := ⟨_, rfl⟩
  have hz2 : ¬ Pa.size + Pb.size > 9223372036854775807 := by rw [hnPa, hnPb]; decide
  have hnQ2 : Q2.size = 4 := by rw [← hq2, ByteArray.size_append, hnPa, hnPb]
  obtain ⟨Q3, hq3⟩ : ∃ x : ByteArray, Q2 ++ Pc = x := ⟨_, rfl⟩
  have hz3 : ¬ Q2.size + Pc.size > 9223372036854775807 := by rw [hnQ2, hnPc]; decide
  have hnQ3 : Q3.size = 6 := by rw [← hq3, ByteArray.size_append, hnQ2, hnPc]
  obtain ⟨Q4, hq4⟩ : ∃ x : ByteArray, Q3 ++ Pe = x := ⟨_, rfl⟩
  have hz4 : ¬ Q3.size + Pe.size > 9223372036854775807 := by rw [hnQ3, hnPe]; decide
  have hnQ4 : Q4.size = 8 := by rw [← hq4, ByteArray.size_append, hnQ3, hnPe]
  obtain ⟨Q5, hq5⟩ : ∃ x : ByteArray, Q4 ++ Ph = x := ⟨_, rfl⟩
  have hz5 : ¬ Q4.size + Ph.size > 9223372036854775807 := by rw [hnQ4, hnPh]; decide
  have hnQ5 : Q5.size = 10 := by rw [← hq5, ByteArray.size_append, hnQ4, hnPh]
  obtain ⟨Q6, hq6⟩ : ∃ x : ByteArray, Q5 ++ Pm = x := ⟨_, rfl⟩
  have hz6 : ¬ Q5.size + Pm.size > 9223372036854775807 := by rw [hnQ5, hnPm]; decide
  have hnQ6 : Q6.size = 12 := by rw [← hq6, ByteArray.size_append, hnQ5, hnPm]
  obtain ⟨Q7, hq7⟩ : ∃ x : ByteArray, Q6 ++ Z = x := ⟨_, rfl⟩
  have hz7 : ¬ Q6.size + Z.size > 9223372036854775807 := by rw [hnQ6, hnZ]; decide
  have hnQ7 : Q7.size = 13 := by rw [← hq7, ByteArray.size_append, hnQ6, hnZ]
  obtain ⟨Q8, hq8⟩ : ∃ x : ByteArray, Q7 ++ Pq = x := ⟨_, rfl⟩
  have hz8 : ¬ Q7.size + Pq.size > 9223372036854775807 := by rw [hnQ7, hnPq]; decide
  have hnQ8 : Q8.size = 15 := by rw [← hq8, ByteArray.size_append, hnQ7, hnPq]
  obtain ⟨Q9, hq9⟩ : ∃ x : ByteArray, Q8 ++ Pr = x := ⟨_, rfl⟩
  have hz9 : ¬ Q8.size + Pr.size > 9223372036854775807 := by rw [hnQ8, hnPr]; decide
  have hnQ9 : Q9.size = 17 := by rw [← hq9, ByteArray.size_append, hnQ8, hnPr]
  have hout : Hid (Q9 = S (hdT y mo d' (m' / 60) (m' % 60) ([43] ++ (pad 2 (za / 60) ++ pad 2 (za % 60))))) := by
    unfold Hid hdT
    rw [← hq9, ← hq8, ← hq7, ← hq6, ← hq5, ← hq4, ← hq3, ← hq2, ← hPa, ← hPb, ← hPc, ← hPe, ← hPh, ← hPm, ← hPq, ← hPr, ← hZ, hya, hyb, hha, hma, hzq, hzr, show (⟨#[43]⟩ : ByteArray) = S [43] from rfl]
    simp only [S_app3, List.append_assoc]
  have hzL : ¬ 9223372036854775807 < Q6.size + 1 := by rw [hnQ6]; decide
  rw [← hZ] at hq7 hz7
  clear pw hya hyb hha hma hzq hzr ya100 yb100 ha100 ma100 zq100 zr100 mo100 d100 hPa hPb hPc hPe hPh hPm hPq hPr hT hZ hnZ hnQ2 hnQ3 hnQ4 hnQ5 hnQ6 hnQ7 hnQ8 hnQ9 hnPa hnPb hnPc hnPe hnPh hnPm hnPq hnPr hy hmo hd hm hd31 hm1440 hza1440 hs hd' hm' hza hz emI edI ezI hsE eB1 eB2 es ez ez2
  unfold whV
  obtain ⟨O, hO⟩ : ∃ O : ByteArray, S (hdT y mo d' (m' / 60) (m' % 60) ([43] ++ (pad 2 (za / 60) ++ pad 2 (za % 60)))) = O := ⟨_, rfl⟩
  rw [hO] at hout ⊢
  clear hO
  go_enter Tryz.func5, Tryz.ntmps5
  go_upto_region 14 with fail
  clear hW0
  refine Du.regionP (fun _ => true) (fun w' => UtS W0 w.heap.size (y : Int) (mo : Int) (d : Int) (m : Int) z w') (by kernel_rfl) ?_
  refine RgN.n_take 0 ?vaZ31 (by simp only [List.getElem?_toArray, List.getElem?_cons_zero]; exact rfl) (by kernel_rfl) (by kernel_rfl) (by kernel_rfl) (RgN.safe_all _ _ _) (by rfl) hS0 ?yaZ31 ?raZ31
  case yaZ31 =>
    intro w' hS
    obtain ⟨⟨h0, h1, h2, h3, h4⟩, h5⟩ := hS
    go_simp
    try with_reducible rfl
  case raZ31 =>
  simp only [Act.put, List.setIfInBounds_toArray, List.set_cons_zero, List.set_cons_succ]
  refine RgN.n_take 1 ?vaZ32 (by simp only [List.getElem?_toArray, List.getElem?_cons_zero, List.getElem?_cons_succ]; exact rfl) (by kernel_rfl) (by kernel_rfl) (by kernel_rfl) (RgN.safe_all _ _ _) (by rfl) hS0 ?yaZ32 ?raZ32
  case yaZ32 =>
    intro w' hS
    obtain ⟨⟨h0, h1, h2, h3, h4⟩, h5⟩ := hS
    go_simp
    try with_reducible rfl
  case raZ32 =>
  simp only [Act.put, List.setIfInBounds_toArray, List.set_cons_zero, List.set_cons_succ]
  refine RgN.n_take 2 ?vaZ33 (by simp only [List.getElem?_toArray, List.getElem?_cons_zero, List.getElem?_cons_succ]; exact rfl) (by kernel_rfl) (by kernel_rfl) (by kernel_rfl) (RgN.safe_all _ _ _) (by rfl) hS0 ?yaZ33 ?raZ33
  case yaZ33 =>
    intro w' hS
    obtain ⟨⟨h0, h1, h2, h3, h4⟩, h5⟩ := hS
    go_simp
    try with_reducible rfl
  case raZ33 =>
  simp only [Act.put, List.setIfInBounds_toArray, List.set_cons_zero, List.set_cons_succ]
  refine RgN.n_take 4 ?vaZ34 (by simp only [List.getElem?_toArray, List.getElem?_cons_zero, List.getElem?_cons_succ]; exact rfl) (by kernel_rfl) (by kernel_rfl) (by kernel_rfl) (RgN.safe_all _ _ _) (by rfl) hS0 ?yaZ34 ?raZ34
  case yaZ34 =>
    intro w' hS
    obtain ⟨⟨h0, h1, h2, h3, h4⟩, h5⟩ := hS
    go_simp
    try with_reducible rfl
  case raZ34 =>
  simp only [Act.put, List.setIfInBounds_toArray, List.set_cons_zero, List.set_cons_succ]
  refine RgN.n_take 5 ?vaZ35 (by simp only [List.getElem?_toArray, List.getElem?_cons_zero, List.getElem?_cons_succ]; exact rfl) (by kernel_rfl) (by kernel_rfl) (by kernel_rfl) (RgN.safe_all _ _ _) (by rfl) hS0 ?yaZ35 ?raZ35
  case yaZ35 =>
    intro w' hS
    obtain ⟨⟨h0, h1, h2, h3, h4⟩, h5⟩ := hS
    go_simp
    try with_reducible rfl
  case raZ35 =>
  simp only [Act.put, List.setIfInBounds_toArray, List.set_cons_zero, List.set_cons_succ]
  refine RgN.n_take 6 ?vaZ36 (by simp only [List.getElem?_toArray, List.getElem?_cons_zero, List.getElem?_cons_succ]; exact rfl) (by kernel_rfl) (by kernel_rfl) (by kernel_rfl) (RgN.safe_all _ _ _) (by rfl) hS0 ?yaZ36 ?raZ36
  case yaZ36 =>
    intro w' hS
    obtain ⟨⟨h0, h1, h2, h3, h4⟩, h5⟩ := hS
    go_simp
    try with_reducible rfl
  case raZ36 =>
  simp only [Act.put, List.setIfInBounds_toArray, List.set_cons_zero, List.set_cons_succ]
  refine RgN.n_take 9 ?vaZ37 (by simp only [List.getElem?_toArray, List.getElem?_cons_zero, List.getElem?_cons_succ]; exact rfl) (by kernel_rfl) (by kernel_rfl) (by kernel_rfl) (RgN.safe_all _ _ _) (by rfl) hS0 ?yaZ37 ?raZ37
  case yaZ37 =>
    intro w' hS
    obtain ⟨⟨h0, h1, h2, h3, h4⟩, h5⟩ := hS
    go_simp
    try with_reducible rfl
  case raZ37 =>
  simp only [Act.put, List.setIfInBounds_toArray, List.set_cons_zero, List.set_cons_succ]
  refine RgN.n_take 10 ?vaZ38 (by simp only [List.getElem?_toArray, List.getElem?_cons_zero, List.getElem?_cons_succ]; exact rfl) (by kernel_rfl) (by kernel_rfl) (by kernel_rfl) (RgN.safe_all _ _ _) (by rfl) hS0 ?yaZ38 ?raZ38
  case yaZ38 =>
    intro w' hS
    obtain ⟨⟨h0, h1, h2, h3, h4⟩, h5⟩ := hS
    go_simp
    try with_reducible rfl
  case raZ38 =>
  simp only [Act.put, List.setIfInBounds_toArray, List.set_cons_zero, List.set_cons_succ]
  refine RgN.n_take 13 ?vaZ39 (by simp only [List.getElem?_toArray, List.getElem?_cons_zero, List.getElem?_cons_succ]; exact rfl) (by kernel_rfl) (by kernel_rfl) (by kernel_rfl) (RgN.safe_all _ _ _) (by rfl) hS0 ?yaZ39 ?raZ39
  case yaZ39 =>
    intro w' hS
    obtain ⟨⟨h0, h1, h2, h3, h4⟩, h5⟩ := hS
    go_simp
    try with_reducible rfl
  case raZ39 =>
  simp only [Act.put, List.setIfInBounds_toArray, List.set_cons_zero, List.set_cons_succ]
  refine RgN.n_take 16 ?vaZ310 (by simp only [List.getElem?_toArray, List.getElem?_cons_zero, List.getElem?_cons_succ]; exact rfl) (by kernel_rfl) (by kernel_rfl) (by kernel_rfl) (RgN.safe_all _ _ _) (by rfl) hS0 ?yaZ310 ?raZ310
  case yaZ310 =>
    intro w' hS
    obtain ⟨⟨h0, h1, h2, h3, h4⟩, h5⟩ := hS
    go_simp
    try with_reducible rfl
  case raZ310 =>
  simp only [Act.put, List.setIfInBounds_toArray, List.set_cons_zero, List.set_cons_succ]
  refine RgN.n_take 17 ?vaZ311 (by simp only [List.getElem?_toArray, List.getElem?_cons_zero, List.getElem?_cons_succ]; exact rfl) (by kernel_rfl) (by kernel_rfl) (by kernel_rfl) (RgN.safe_all _ _ _) (by rfl) hS0 ?yaZ311 ?raZ311
  case yaZ311 =>
    intro w' hS
    obtain ⟨⟨h0, h1, h2, h3, h4⟩, h5⟩ := hS
    go_simp
    try with_reducible rfl
  case raZ311 =>
  simp only [Act.put, List.setIfInBounds_toArray, List.set_cons_zero, List.set_cons_succ]
  refine RgN.n_take 20 ?vaZ312 (by simp only [List.getElem?_toArray, List.getElem?_cons_zero, List.getElem?_cons_succ]; exact rfl) (by kernel_rfl) (by kernel_rfl) (by kernel_rfl) (RgN.safe_all _ _ _) (by rfl) hS0 ?yaZ312 ?raZ312
  case yaZ312 =>
    intro w' hS
    obtain ⟨⟨h0, h1, h2, h3, h4⟩, h5⟩ := hS
    go_simp
    try with_reducible rfl
  case raZ312 =>
  simp only [Act.put, List.setIfInBounds_toArray, List.set_cons_zero, List.set_cons_succ]
  refine RgN.n_take 21 ?vaZ313 (by simp only [List.getElem?_toArray, List.getElem?_cons_zero, List.getElem?_cons_succ]; exact rfl) (by kernel_rfl) (by kernel_rfl) (by kernel_rfl) (RgN.safe_all _ _ _) (by rfl) hS0 ?yaZ313 ?raZ313
  case yaZ313 =>
    intro w' hS
    obtain ⟨⟨h0, h1, h2, h3, h4⟩, h5⟩ := hS
    go_simp
    try with_reducible rfl
  case raZ313 =>
  simp only [Act.put, List.setIfInBounds_toArray, List.set_cons_zero, List.set_cons_succ]
  refine RgN.n_take 24 ?vaZ314 (by simp only [List.getElem?_toArray, List.getElem?_cons_zero, List.getElem?_cons_succ]; exact rfl) (by kernel_rfl) (by kernel_rfl) (by kernel_rfl) (RgN.safe_all _ _ _) (by rfl) hS0 ?yaZ314 ?raZ314
  case yaZ314 =>
    intro w' hS
    obtain ⟨⟨h0, h1, h2, h3, h4⟩, h5⟩ := hS
    go_simp
    try with_reducible rfl
  case raZ314 =>
  simp only [Act.put, List.setIfInBounds_toArray, List.set_cons_zero, List.set_cons_succ]
  refine RgN.n_take 26 ?vaZ315 (by simp only [List.getElem?_toArray, List.getElem?_cons_zero, List.getElem?_cons_succ]; exact rfl) (by kernel_rfl) (by kernel_rfl) (by kernel_rfl) (RgN.safe_all _ _ _) (by rfl) hS0 ?yaZ315 ?raZ315
  case yaZ315 =>
    intro w' hS
    obtain ⟨⟨h0, h1, h2, h3, h4⟩, h5⟩ := hS
    go_simp
    try with_reducible rfl
  case raZ315 =>
  simp only [Act.put, List.setIfInBounds_toArray, List.set_cons_zero, List.set_cons_succ]
  refine RgN.n_take 27 ?vaZ316 (by simp only [List.getElem?_toArray, List.getElem?_cons_zero, List.getElem?_cons_succ]; exact rfl) (by kernel_rfl) (by kernel_rfl) (by kernel_rfl) (RgN.safe_all _ _ _) (by rfl) hS0 ?yaZ316 ?raZ316
  case yaZ316 =>
    intro w' hS
    obtain ⟨⟨h0, h1, h2, h3, h4⟩, h5⟩ := hS
    go_simp
    try with_reducible rfl
  case raZ316 =>
  simp only [Act.put, List.setIfInBounds_toArray, List.set_cons_zero, List.set_cons_succ]
  refine RgN.n_take 30 ?vaZ317 (by simp only [List.getElem?_toArray, List.getElem?_cons_zero, List.getElem?_cons_succ]; exact rfl) (by kernel_rfl) (by kernel_rfl) (by kernel_rfl) (RgN.safe_all _ _ _) (by rfl) hS0 ?yaZ317 ?raZ317
  case yaZ317 =>
    intro w' hS
    obtain ⟨⟨h0, h1, h2, h3, h4⟩, h5⟩ := hS
    go_simp
    try with_reducible rfl
  case raZ317 =>
  simp only [Act.put, List.setIfInBounds_toArray, List.set_cons_zero, List.set_cons_succ]
  refine RgN.n_take 31 ?vaZ318 (by simp only [List.getElem?_toArray, List.getElem?_cons_zero, List.getElem?_cons_succ]; exact rfl) (by kernel_rfl) (by kernel_rfl) (by kernel_rfl) (RgN.safe_all _ _ _) (by rfl) hS0 ?yaZ318 ?raZ318
  case yaZ318 =>
    intro w' hS
    obtain ⟨⟨h0, h1, h2, h3, h4⟩, h5⟩ := hS
    go_simp
    try with_reducible rfl
  case raZ318 =>
  simp only [Act.put, List.setIfInBounds_toArray, List.set_cons_zero, List.set_cons_succ]
  refine RgN.n_one 3 (by kernel_rfl) (by simp only [List.getElem?_toArray, List.getElem?_cons_zero, List.getElem?_cons_succ]; exact rfl) (fun K hK => ?_)
  go_simp
  refine (hTa _).out.mono ?_
  rintro e u1 ⟨rfl, hb⟩
  have hS1 := UtS.of hWh.out (hS0.2.trans (hb.mono hS0.2.size))
  clear hb
  go_simp
  refine hK.out _ _ (fun _ => hS1) ?_
  clear hK K
  try simp only [Act.put, List.setIfInBounds_toArray, List.set_cons_zero, List.set_cons_succ]
  refine RgN.n_one 7 (by kernel_rfl) (by simp only [List.getElem?_toArray, List.getElem?_cons_zero, List.getElem?_cons_succ]; exact rfl) (fun K hK => ?_)
  go_simp
  refine (hTb _).out.mono ?_
  rintro e u2 ⟨rfl, hb⟩
  have hS2 := UtS.of hWh.out (hS1.2.trans (hb.mono hS1.2.size))
  clear hb
  go_simp
  refine hK.out _ _ (fun _ => hS2) ?_
  clear hK K
  try simp only [Act.put, List.setIfInBounds_toArray, List.set_cons_zero, List.set_cons_succ]
  refine RgN.n_take 8 ?vaZ321 (by simp only [List.getElem?_toArray, List.getElem?_cons_zero, List.getElem?_cons_succ]; exact rfl) (by kernel_rfl) (by kernel_rfl) (by kernel_rfl) (RgN.safe_all _ _ _) (by rfl) hS2 ?yaZ321 ?raZ321
  case yaZ321 =>
    intro w' hS
    obtain ⟨⟨h0, h1, h2, h3, h4⟩, h5⟩ := hS
    go_simp
    try with_reducible rfl
  case raZ321 =>
  simp only [Act.put, List.setIfInBounds_toArray, List.set_cons_zero, List.set_cons_succ]
  refine RgN.n_one 11 (by kernel_rfl) (by simp only [List.getElem?_toArray, List.getElem?_cons_zero, List.getElem?_cons_succ]; exact rfl) (fun K hK => ?_)
  go_simp
  refine (hTc _).out.mono ?_
  rintro e u3 ⟨rfl, hb⟩
  have hS3 := UtS.of hWh.out (hS2.2.trans (hb.mono hS2.2.size))
  clear hb
  go_simp
  refine hK.out _ _ (fun _ => hS3) ?_
  clear hK K
  try simp only [Act.put, List.setIfInBounds_toArray, List.set_cons_zero, List.set_cons_succ]
  refine RgN.n_take 12 ?vaZ323 (by simp only [List.getElem?_toArray, List.getElem?_cons_zero, List.getElem?_cons_succ]; exact rfl) (by kernel_rfl) (by kernel_rfl) (by kernel_rfl) (RgN.safe_all _ _ _) (by rfl) hS3 ?yaZ323 ?raZ323
  case yaZ323 =>
    intro w' hS
    obtain ⟨⟨h0, h1, h2, h3, h4⟩, h5⟩ := hS
    go_simp
    try with_reducible rfl
  case raZ323 =>
  simp only [Act.put, List.setIfInBounds_toArray, List.set_cons_zero, List.set_cons_succ]
  refine RgN.n_one 14 (by kernel_rfl) (by simp only [List.getElem?_toArray, List.getElem?_cons_zero, List.getElem?_cons_succ]; exact rfl) (fun K hK => ?_)
  go_simp
  refine (hTe _).out.mono ?_
  rintro e u4 ⟨rfl, hb⟩
  have hS4 := UtS.of hWh.out (hS3.2.trans (hb.mono hS3.2.size))
  clear hb
  go_simp
  refine hK.out _ _ (fun _ => hS4) ?_
  clear hK K
  try simp only [Act.put, List.setIfInBounds_toArray, List.set_cons_zero, List.set_cons_succ]
  refine RgN.n_take 15 ?vaZ325 (by simp only [List.getElem?_toArray, List.getElem?_cons_zero, List.getElem?_cons_succ]; exact rfl) (by kernel_rfl) (by kernel_rfl) (by kernel_rfl) (RgN.safe_all _ _ _) (by rfl) hS4 ?yaZ325 ?raZ325
  case yaZ325 =>
    intro w' hS
    obtain ⟨⟨h0, h1, h2, h3, h4⟩, h5⟩ := hS
    go_simp
    try with_reducible rfl
  case raZ325 =>
  simp only [Act.put, List.setIfInBounds_toArray, List.set_cons_zero, List.set_cons_succ]
  refine RgN.n_one 18 (by kernel_rfl) (by simp only [List.getElem?_toArray, List.getElem?_cons_zero, List.getElem?_cons_succ]; exact rfl) (fun K hK => ?_)
  go_simp
  refine (hTh _).out.mono ?_
  rintro e u5 ⟨rfl, hb⟩
  have hS5 := UtS.of hWh.out (hS4.2.trans (hb.mono hS4.2.size))
  clear hb
  go_simp
  refine hK.out _ _ (fun _ => hS5) ?_
  clear hK K
  try simp only [Act.put, List.setIfInBounds_toArray, List.set_cons_zero, List.set_cons_succ]
  refine RgN.n_take 19 ?vaZ327 (by simp only [List.getElem?_toArray, List.getElem?_cons_zero, List.getElem?_cons_succ]; exact rfl) (by kernel_rfl) (by kernel_rfl) (by kernel_rfl) (RgN.safe_all _ _ _) (by rfl) hS5 ?yaZ327 ?raZ327
  case yaZ327 =>
    intro w' hS
    obtain ⟨⟨h0, h1, h2, h3, h4⟩, h5⟩ := hS
    go_simp
    try with_reducible rfl
  case raZ327 =>
  simp only [Act.put, List.setIfInBounds_toArray, List.set_cons_zero, List.set_cons_succ]
  refine RgN.n_one 22 (by kernel_rfl) (by simp only [List.getElem?_toArray, List.getElem?_cons_zero, List.getElem?_cons_succ]; exact rfl) (fun K hK => ?_)
  go_simp
  refine (hTm _).out.mono ?_
  rintro e u6 ⟨rfl, hb⟩
  have hS6 := UtS.of hWh.out (hS5.2.trans (hb.mono hS5.2.size))
  clear hb
  go_simp
  refine hK.out _ _ (fun _ => hS6) ?_
  clear hK K
  try simp only [Act.put, List.setIfInBounds_toArray, List.set_cons_zero, List.set_cons_succ]
  refine RgN.n_take 23 ?vaZ329 (by simp only [List.getElem?_toArray, List.getElem?_cons_zero, List.getElem?_cons_succ]; exact rfl) (by kernel_rfl) (by kernel_rfl) (by kernel_rfl) (RgN.safe_all _ _ _) (by rfl) hS6 ?yaZ329 ?raZ329
  case yaZ329 =>
    intro w' hS
    obtain ⟨⟨h0, h1, h2, h3, h4⟩, h5⟩ := hS
    go_simp
    try with_reducible rfl
  case raZ329 =>
  simp only [Act.put, List.setIfInBounds_toArray, List.set_cons_zero, List.set_cons_succ]
  refine RgN.n_take 25 ?vaZ330 (by simp only [List.getElem?_toArray, List.getElem?_cons_zero, List.getElem?_cons_succ]; exact rfl) (by kernel_rfl) (by kernel_rfl) (by kernel_rfl) (RgN.safe_all _ _ _) (by rfl) hS6 ?yaZ330 ?raZ330
  case yaZ330 =>
    intro w' hS
    obtain ⟨⟨h0, h1, h2, h3, h4⟩, h5⟩ := hS
    go_simp
    try with_reducible rfl
  case raZ330 =>
  simp only [Act.put, List.setIfInBounds_toArray, List.set_cons_zero, List.set_cons_succ]
  refine RgN.n_one 28 (by kernel_rfl) (by simp only [List.getElem?_toArray, List.getElem?_cons_zero, List.getElem?_cons_succ]; exact rfl) (fun K hK => ?_)
  go_simp
  refine (hTq _).out.mono ?_
  rintro e u7 ⟨rfl, hb⟩
  have hS7 := UtS.of hWh.out (hS6.2.trans (hb.mono hS6.2.size))
  clear hb
  go_simp
  refine hK.out _ _ (fun _ => hS7) ?_
  clear hK K
  try simp only [Act.put, List.setIfInBounds_toArray, List.set_cons_zero, List.set_cons_succ]
  refine RgN.n_take 29 ?vaZ332 (by simp only [List.getElem?_toArray, List.getElem?_cons_zero, List.getElem?_cons_succ]; exact rfl) (by kernel_rfl) (by kernel_rfl) (by kernel_rfl) (RgN.safe_all _ _ _) (by rfl) hS7 ?yaZ332 ?raZ332
  case yaZ332 =>
    intro w' hS
    obtain ⟨⟨h0, h1, h2, h3, h4⟩, h5⟩ := hS
    go_simp
    try with_reducible rfl
  case raZ332 =>
  simp only [Act.put, List.setIfInBounds_toArray, List.set_cons_zero, List.set_cons_succ]
  refine RgN.n_one 32 (by kernel_rfl) (by simp only [List.getElem?_toArray, List.getElem?_cons_zero, List.getElem?_cons_succ]; exact rfl) (fun K hK => ?_)
  go_simp
  refine (hTr _).out.mono ?_
  rintro e u8 ⟨rfl, hb⟩
  have hS8 := UtS.of hWh.out (hS7.2.trans (hb.mono hS7.2.size))
  clear hb
  go_simp
  refine hK.out _ _ (fun _ => hS8) ?_
  clear hK K
  try simp only [Act.put, List.setIfInBounds_toArray, List.set_cons_zero, List.set_cons_succ]
  refine RgN.n_take 33 ?vaZ334 (by simp only [List.getElem?_toArray, List.getElem?_cons_zero, List.getElem?_cons_succ]; exact rfl) (by kernel_rfl) (by kernel_rfl) (by kernel_rfl) (RgN.safe_all _ _ _) (by rfl) hS8 ?yaZ334 ?raZ334
  case yaZ334 =>
    intro w' hS
    obtain ⟨⟨h0, h1, h2, h3, h4⟩, h5⟩ := hS
    go_simp
    try with_reducible rfl
  case raZ334 =>
  simp only [Act.put, List.setIfInBounds_toArray, List.set_cons_zero, List.set_cons_succ]
  refine RgN.n_one 34 (by kernel_rfl) (by simp only [List.getElem?_toArray, List.getElem?_cons_zero, List.getElem?_cons_succ]; exact rfl) (fun K hK => ?_)
  go_simp
  refine hK.out _ _ (fun _ => hS8) ?_
  clear hK K
  try simp only [Act.put, List.setIfInBounds_toArray, List.set_cons_zero, List.set_cons_succ]
  refine RgN.n_done (by kernel_rfl) ?_ _
  go_wp2_with fail
  go_ret
  exact ⟨by rw [← hout.out]; rfl, hB0.out.1.trans (hS8.2.mono hB0.out.2)⟩
end Mt
end Go.Proofs.YtnjodplnbfmjeaaGreatDoor
