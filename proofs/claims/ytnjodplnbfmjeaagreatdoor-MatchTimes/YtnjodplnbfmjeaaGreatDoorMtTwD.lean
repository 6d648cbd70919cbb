import Derived.Test.YtnjodplnbfmjeaaGreatDoorMtTwC
namespace Go.Proofs.YtnjodplnbfmjeaaGreatDoor
open Go.RowKit
set_option linter.unusedVariables false
set_option linter.unusedSimpArgs false
namespace Mt

/-- How things stand while a minute is written. -/
def UtS (w0 : World) (g : Nat) (y mo d m z : Int) (W : World) : Prop := (W.cell? ⟨g, 0, none⟩ = some (.int .i64 y) ∧ W.cell? ⟨g, 1, none⟩ = some (.int .i64 mo) ∧ W.cell? ⟨g, 2, none⟩ = some (.int .i64 d) ∧ W.cell? ⟨g, 3, none⟩ = some (.int .i64 m) ∧ W.cell? ⟨g, 4, none⟩ = some (.int .i64 z)) ∧ Below w0.heap.size w0 W
theorem UtS.of {w0 W : World} {g : Nat} {y mo d m z : Int} (h : WhV w0 g y mo d m z) (hb : Below w0.heap.size w0 W) : UtS w0 g y mo d m z W := ⟨(h.below hb h.lt).cells.1, hb⟩
theorem natF {x : Nat} (h : x < 100) : IntKind.i64.wrap (x : Int) = (x : Int) ∧ wrap64 (x : Int) = (x : Int) := by
  rw [IntKind.wrap_i64]
  refine ⟨by omega, by unfold wrap64; omega⟩
theorem divF {n c : Nat} {s ci : Int} (hs : s = (n : Int)) (hci : ci = (c : Int)) (hc : 0 < c) (hn : n < 100 * c) : ∃ x : Nat, n / c = x ∧ x < 100 ∧ s.tdiv ci = (x : Int) ∧ s / ci = (x : Int) ∧ IntKind.i64.wrap (x : Int) = (x : Int) ∧ wrap64 (x : Int) = (x : Int) := by
  have h : n / c < 100 := Nat.div_lt_of_lt_mul (by rw [Nat.mul_comm]; exact hn)
  have e : s / ci = ((n / c : Nat) : Int) := by rw [hs, hci]; exact (Int.natCast_ediv n c).symm
  exact ⟨_, rfl, h, by rw [Int.tdiv_eq_ediv_of_nonneg (by rw [hs]; exact Int.natCast_nonneg _)]; exact e, e, (natF h).1, (natF h).2⟩
theorem modF {n c : Nat} {s ci : Int} (hs : s = (n : Int)) (hci : ci = (c : Int)) (hc : 0 < c) (hc2 : c ≤ 100) : ∃ x : Nat, n % c = x ∧ x < 100 ∧ s.tmod ci = (x : Int) ∧ s % ci = (x : Int) ∧ IntKind.i64.wrap (x : Int) = (x : Int) ∧ wrap64 (x : Int) = (x : Int) := by
  have h : n % c < 100 := Nat.lt_of_lt_of_le (Nat.mod_lt _ hc) hc2
  have e : s % ci = ((n % c : Nat) : Int) := by rw [hs, hci]; exact (Int.natCast_emod n c).symm
  exact ⟨_, rfl, h, by rw [Int.tmod_eq_emod_of_nonneg (by rw [hs]; exact Int.natCast_nonneg _)]; exact e, e, (natF h).1, (natF h).2⟩
theorem S_app3 (a b : List UInt8) : S a ++ S b = S (a ++ b) := S_eq _ _ (by rw [app_l, S_l, S_l])
set_option maxRecDepth 100000 in
set_option maxHeartbeats 4000000 in
theorem inUTC_any (y mo d m : Nat) (z : Int) (w : World) (hy : y < 10000) (hmo : mo < 13) (hd : d < 32) (hm : m < 1440) : Calls Tryz.prog 7 #[whV (y : Int) (mo : Int) (d : Int) (m : Int) z] w fun e w' => e = .returned (.string (S (hdT y mo d (m / 60) (m % 60) [90]))) ∧ Below w.heap.size w w' := by
  obtain ⟨W0, hW0⟩ : ∃ W, w.alloc (.cells #[.int .i64 (y : Int), .int .i64 (mo : Int), .int .i64 (d : Int), .int .i64 (m : Int), .int .i64 z] 23) = W := ⟨_, rfl⟩
  have pw : WhV W0 w.heap.size (y : Int) (mo : Int) (d : Int) (m : Int) z := by rw [← hW0]; exact heap_alloc_last w _
  have hB0 : Hid (Below w.heap.size w W0 ∧ w.heap.size ≤ W0.heap.size) := by rw [← hW0]; exact ⟨(Below.refl _ _).alloc (Nat.le_refl _) _, by simp⟩
  have hWh : Hid (WhV W0 w.heap.size (y : Int) (mo : Int) (d : Int) (m : Int) z) := pw
  obtain ⟨⟨c0, c1, c2, c3, c4⟩, cf⟩ := pw.cells
  have hS0 : UtS W0 w.heap.size (y : Int) (mo : Int) (d : Int) (m : Int) z W0.drew := UtS.of (w0 := W0) pw ⟨rfl, rfl, rfl, Nat.le_refl _, fun _ _ => rfl⟩
  have hT : ∀ (n : Nat) (W : World), n < 100 → Hid (Calls Tryz.prog 13 #[.int .i64 (n : Int)] W fun e w' => e = .returned (.string (S (pad 2 n))) ∧ Below W.heap.size W w') := fun n W h => two_any n W h
  obtain ⟨ya, hya, ya100, qya, qya2, vya, vya2⟩ := divF (n := y) (s := (y : Int)) (c := 100) (ci := 100) rfl rfl (by decide) (Nat.lt_of_lt_of_le hy (by decide))
  obtain ⟨yb, hyb, yb100, qyb, qyb2, vyb, vyb2⟩ := modF (n := y) (s := (y : Int)) (c := 100) (ci := 100) rfl rfl (by decide) (by decide)
  obtain ⟨ha, hha, ha100, qha, qha2, vha, vha2⟩ := divF (n := m) (s := (m : Int)) (c := 60) (ci := 60) rfl rfl (by decide) (Nat.lt_trans hm (by decide))
  obtain ⟨ma, hma, ma100, qma, qma2, vma, vma2⟩ := modF (n := m) (s := (m : Int)) (c := 60) (ci := 60) rfl rfl (by decide) (by decide)
  have mo100 : mo < 100 := by omega
  have d100 : d < 100 := by omega
  have hTa := fun W => hT ya W ya100
  have hnPa : (S (pad 2 ya)).size = 2 := by rw [S_size, pad2_len ya100]
  obtain ⟨Pa, hPa⟩ : ∃ x : ByteArray, S (pad 2 ya) = x := ⟨_, rfl⟩
  simp only [hPa] at hTa hnPa
  have hTb := fun W => hT yb W yb100
  have hnPb : (S (pad 2 yb)).size = 2 := by rw [S_size, pad2_len yb100]
  obtain ⟨Pb, hPb⟩ : ∃ x : ByteArray, S (pad 2 yb) = x := ⟨_, rfl⟩
  simp only [hPb] at hTb hnPb
  have hTc := fun W => hT mo W mo100
  have hnPc : (S (pad 2 mo)).size = 2 := by rw [S_size, pad2_len mo100]
  obtain ⟨Pc, hPc⟩ : ∃ x : ByteArray, S (pad 2 mo) = x := ⟨_, rfl⟩
  simp only [hPc] at hTc hnPc
  have hTe := fun W => hT d W d100
  have hnPe : (S (pad 2 d)).size = 2 := by rw [S_size, pad2_len d100]
  obtain ⟨Pe, hPe⟩ : ∃ x : ByteArray, S (pad 2 d) = x := ⟨_, rfl⟩
  simp only [hPe] at hTe hnPe
  have hTh := fun W => hT ha W ha100
  have hnPh : (S (pad 2 ha)).size = 2 := by rw [S_size, pad2_len ha100]
  obtain ⟨Ph, hPh⟩ : ∃ x : ByteArray, S (pad 2 ha) = x := ⟨_, rfl⟩
  simp only [hPh] at hTh hnPh
  have hTm := fun W => hT ma W ma100
  have hnPm : (S (pad 2 ma)).size = 2 := by rw [S_size, pad2_len ma100]
  obtain ⟨Pm, hPm⟩ : ∃ x : ByteArray, S (pad 2 ma) = x := ⟨_, rfl⟩
  simp only [hPm] at hTm hnPm
  have hnZ : (⟨#[90]⟩ : ByteArray).size = 1 := rfl
  obtain ⟨Z, hZ⟩ : ∃ Z : ByteArray, (⟨#[90]⟩ : ByteArray) = Z := ⟨_, rfl⟩
  rw [hZ] at hnZ
  obtain ⟨Q2, hq2⟩ : ∃ x : ByteArray, Pa ++ Pb = x := ⟨_, rfl⟩
  have hz2 : ¬ Pa.size + Pb.size > 9223372036854775807 := by rw [hnPa, hnPb]; decide
  have hnQ2 : Q2.size = 4 := by rw [← hq2, ByteArray.size_append, hnPa, hnPb]
  obtain ⟨Q3, hq3⟩ : ∃ x : ByteArray, Q2 ++ Pc = x := ⟨_, rfl⟩
  have hz3 : ¬ Q2.size + Pc.size > 9223372036854775807 := by rw [hnQ2, hnPc]; decide
  have hnQ3 : Q3.size = 6 := by rw [← hq3, ByteArray.size_append, hnQ2, hnPc]
  obtain ⟨Q4, hq4⟩ : ∃ x : ByteArray, Q3 ++ Pe = x := ⟨_, rfl⟩
  have hz4 : ¬ Q3.size + Pe.size > 9223372036854775807 := by rw [hnQ3, hnPe]; decide
  have hnQ4 : Q4.size = 8 := by rw [← hq4, ByteArray.size_append, hnQ3, hnPe]
  obtain ⟨Q5, hq5⟩ : ∃ x : ByteArray, Q4 ++ Ph = x := ⟨_, rfl⟩
  have hz5 : ¬ Q4.size + Ph.size > 9223372036854775807 := by rw [hnQ4, hnPh]; decide
  have hnQ5 : Q5.size = 10 := by rw [← hq5, ByteArray.size_append, hnQ4, hnPh]
  obtain ⟨Q6, hq6⟩ : ∃ x : ByteArray, Q5 ++ Pm = x := ⟨_, rfl⟩
  have hz6 : ¬ Q5.size + Pm.size > 9223372036854775807 := by rw [hnQ5, hnPm]; decide
  have hnQ6 : Q6.size = 12 := by rw [← hq6, ByteArray.size_append, hnQ5, hnPm]
  obtain ⟨Q7, hq7⟩ : ∃ x : ByteArray, Q6 ++ Z = x := ⟨_, rfl⟩
  have hz7 : ¬ Q6.size + Z.size > 9223372036854775807 := by rw [hnQ6, hnZ]; decide
  have hnQ7 : Q7.size = 13 := by rw [← hq7, ByteArray.size_append, hnQ6, hnZ]
  have hout : Hid (Q7 = S (hdT y mo d (m / 60) (m % 60) [90])) := by
    unfold Hid hdT
    rw [← hq7, ← hq6, ← hq5, ← hq4, ← hq3, ← hq2, ← hPa, ← hPb, ← hPc, ← hPe, ← hPh, ← hPm, ← hZ, hya, hyb, hha, hma, show (⟨#[90]⟩ : ByteArray) = S [90] from rfl]
    simp only [S_app3, List.append_assoc]
  have hzL : ¬ 9223372036854775807 < Q6.size + 1 := by rw [hnQ6]; decide
  rw [← hZ] at hq7 hz7
  clear pw hya hyb hha hma ya100 yb100 ha100 ma100 mo100 d100 hPa hPb hPc hPe hPh hPm hT hZ hnZ hnQ2 hnQ3 hnQ4 hnQ5 hnQ6 hnQ7 hnPa hnPb hnPc hnPe hnPh hnPm hy hmo hd hm
  unfold whV
  go_enter Tryz.func7, Tryz.ntmps7
  go_upto_region 1 with fail
  clear hW0
  refine Du.regionP (fun _ => true) (fun w' => UtS W0 w.heap.size (y : Int) (mo : Int) (d : Int) (m : Int) z w') (by kernel_rfl) ?_
  refine RgN.n_take 0 ?vaU1 (by simp only [List.getElem?_toArray, List.getElem?_cons_zero]; exact rfl) (by kernel_rfl) (by kernel_rfl) (by kernel_rfl) (RgN.safe_all _ _ _) (by rfl) hS0 ?yaU1 ?raU1
  case yaU1 =>
    intro w' hS
    obtain ⟨⟨h0, h1, h2, h3, h4⟩, h5⟩ := hS
    go_simp
    try with_reducible rfl
  case raU1 =>
  simp only [Act.put, List.setIfInBounds_toArray, List.set_cons_zero, List.set_cons_succ]
  refine RgN.n_take 1 ?vaU2 (by simp only [List.getElem?_toArray, List.getElem?_cons_zero, List.getElem?_cons_succ]; exact rfl) (by kernel_rfl) (by kernel_rfl) (by kernel_rfl) (RgN.safe_all _ _ _) (by rfl) hS0 ?yaU2 ?raU2
  case yaU2 =>
    intro w' hS
    obtain ⟨⟨h0, h1, h2, h3, h4⟩, h5⟩ := hS
    go_simp
    try with_reducible rfl
  case raU2 =>
  simp only [Act.put, List.setIfInBounds_toArray, List.set_cons_zero, List.set_cons_succ]
  refine RgN.n_take 2 ?vaU3 (by simp only [List.getElem?_toArray, List.getElem?_cons_zero, List.getElem?_cons_succ]; exact rfl) (by kernel_rfl) (by kernel_rfl) (by kernel_rfl) (RgN.safe_all _ _ _) (by rfl) hS0 ?yaU3 ?raU3
  case yaU3 =>
    intro w' hS
    obtain ⟨⟨h0, h1, h2, h3, h4⟩, h5⟩ := hS
    go_simp
    try with_reducible rfl
  case raU3 =>
  simp only [Act.put, List.setIfInBounds_toArray, List.set_cons_zero, List.set_cons_succ]
  refine RgN.n_take 4 ?vaU4 (by simp only [List.getElem?_toArray, List.getElem?_cons_zero, List.getElem?_cons_succ]; exact rfl) (by kernel_rfl) (by kernel_rfl) (by kernel_rfl) (RgN.safe_all _ _ _) (by rfl) hS0 ?yaU4 ?raU4
  case yaU4 =>
    intro w' hS
    obtain ⟨⟨h0, h1, h2, h3, h4⟩, h5⟩ := hS
    go_simp
    try with_reducible rfl
  case raU4 =>
  simp only [Act.put, List.setIfInBounds_toArray, List.set_cons_zero, List.set_cons_succ]
  refine RgN.n_take 5 ?vaU5 (by simp only [List.getElem?_toArray, List.getElem?_cons_zero, List.getElem?_cons_succ]; exact rfl) (by kernel_rfl) (by kernel_rfl) (by kernel_rfl) (RgN.safe_all _ _ _) (by rfl) hS0 ?yaU5 ?raU5
  case yaU5 =>
    intro w' hS
    obtain ⟨⟨h0, h1, h2, h3, h4⟩, h5⟩ := hS
    go_simp
    try with_reducible rfl
  case raU5 =>
  simp only [Act.put, List.setIfInBounds_toArray, List.set_cons_zero, List.set_cons_succ]
  refine RgN.n_take 6 ?vaU6 (by simp only [List.getElem?_toArray, List.getElem?_cons_zero, List.getElem?_cons_succ]; exact rfl) (by kernel_rfl) (by kernel_rfl) (by kernel_rfl) (RgN.safe_all _ _ _) (by rfl) hS0 ?yaU6 ?raU6
  case yaU6 =>
    intro w' hS
    obtain ⟨⟨h0, h1, h2, h3, h4⟩, h5⟩ := hS
    go_simp
    try with_reducible rfl
  case raU6 =>
  simp only [Act.put, List.setIfInBounds_toArray, List.set_cons_zero, List.set_cons_succ]
  refine RgN.n_take 9 ?vaU7 (by simp only [List.getElem?_toArray, List.getElem?_cons_zero, List.getElem?_cons_succ]; exact rfl) (by kernel_rfl) (by kernel_rfl) (by kernel_rfl) (RgN.safe_all _ _ _) (by rfl) hS0 ?yaU7 ?raU7
  case yaU7 =>
    intro w' hS
    obtain ⟨⟨h0, h1, h2, h3, h4⟩, h5⟩ := hS
    go_simp
    try with_reducible rfl
  case raU7 =>
  simp only [Act.put, List.setIfInBounds_toArray, List.set_cons_zero, List.set_cons_succ]
  refine RgN.n_take 10 ?vaU8 (by simp only [List.getElem?_toArray, List.getElem?_cons_zero, List.getElem?_cons_succ]; exact rfl) (by kernel_rfl) (by kernel_rfl) (by kernel_rfl) (RgN.safe_all _ _ _) (by rfl) hS0 ?yaU8 ?raU8
  case yaU8 =>
    intro w' hS
    obtain ⟨⟨h0, h1, h2, h3, h4⟩, h5⟩ := hS
    go_simp
    try with_reducible rfl
  case raU8 =>
  simp only [Act.put, List.setIfInBounds_toArray, List.set_cons_zero, List.set_cons_succ]
  refine RgN.n_take 13 ?vaU9 (by simp only [List.getElem?_toArray, List.getElem?_cons_zero, List.getElem?_cons_succ]; exact rfl) (by kernel_rfl) (by kernel_rfl) (by kernel_rfl) (RgN.safe_all _ _ _) (by rfl) hS0 ?yaU9 ?raU9
  case yaU9 =>
    intro w' hS
    obtain ⟨⟨h0, h1, h2, h3, h4⟩, h5⟩ := hS
    go_simp
    try with_reducible rfl
  case raU9 =>
  simp only [Act.put, List.setIfInBounds_toArray, List.set_cons_zero, List.set_cons_succ]
  refine RgN.n_take 14 ?vaU10 (by simp only [List.getElem?_toArray, List.getElem?_cons_zero, List.getElem?_cons_succ]; exact rfl) (by kernel_rfl) (by kernel_rfl) (by kernel_rfl) (RgN.safe_all _ _ _) (by rfl) hS0 ?yaU10 ?raU10
  case yaU10 =>
    intro w' hS
    obtain ⟨⟨h0, h1, h2, h3, h4⟩, h5⟩ := hS
    go_simp
    try with_reducible rfl
  case raU10 =>
  simp only [Act.put, List.setIfInBounds_toArray, List.set_cons_zero, List.set_cons_succ]
  refine RgN.n_take 17 ?vaU11 (by simp only [List.getElem?_toArray, List.getElem?_cons_zero, List.getElem?_cons_succ]; exact rfl) (by kernel_rfl) (by kernel_rfl) (by kernel_rfl) (RgN.safe_all _ _ _) (by rfl) hS0 ?yaU11 ?raU11
  case yaU11 =>
    intro w' hS
    obtain ⟨⟨h0, h1, h2, h3, h4⟩, h5⟩ := hS
    go_simp
    try with_reducible rfl
  case raU11 =>
  simp only [Act.put, List.setIfInBounds_toArray, List.set_cons_zero, List.set_cons_succ]
  refine RgN.n_take 18 ?vaU12 (by simp only [List.getElem?_toArray, List.getElem?_cons_zero, List.getElem?_cons_succ]; exact rfl) (by kernel_rfl) (by kernel_rfl) (by kernel_rfl) (RgN.safe_all _ _ _) (by rfl) hS0 ?yaU12 ?raU12
  case yaU12 =>
    intro w' hS
    obtain ⟨⟨h0, h1, h2, h3, h4⟩, h5⟩ := hS
    go_simp
    try with_reducible rfl
  case raU12 =>
  simp only [Act.put, List.setIfInBounds_toArray, List.set_cons_zero, List.set_cons_succ]
  refine RgN.n_take 19 ?vaU13 (by simp only [List.getElem?_toArray, List.getElem?_cons_zero, List.getElem?_cons_succ]; exact rfl) (by kernel_rfl) (by kernel_rfl) (by kernel_rfl) (RgN.safe_all _ _ _) (by rfl) hS0 ?yaU13 ?raU13
  case yaU13 =>
    intro w' hS
    obtain ⟨⟨h0, h1, h2, h3, h4⟩, h5⟩ := hS
    go_simp
    try with_reducible rfl
  case raU13 =>
  simp only [Act.put, List.setIfInBounds_toArray, List.set_cons_zero, List.set_cons_succ]
  refine RgN.n_take 22 ?vaU14 (by simp only [List.getElem?_toArray, List.getElem?_cons_zero, List.getElem?_cons_succ]; exact rfl) (by kernel_rfl) (by kernel_rfl) (by kernel_rfl) (RgN.safe_all _ _ _) (by rfl) hS0 ?yaU14 ?raU14
  case yaU14 =>
    intro w' hS
    obtain ⟨⟨h0, h1, h2, h3, h4⟩, h5⟩ := hS
    go_simp
    try with_reducible rfl
  case raU14 =>
  simp only [Act.put, List.setIfInBounds_toArray, List.set_cons_zero, List.set_cons_succ]
  refine RgN.n_take 23 ?vaU15 (by simp only [List.getElem?_toArray, List.getElem?_cons_zero, List.getElem?_cons_succ]; exact rfl) (by kernel_rfl) (by kernel_rfl) (by kernel_rfl) (RgN.safe_all _ _ _) (by rfl) hS0 ?yaU15 ?raU15
  case yaU15 =>
    intro w' hS
    obtain ⟨⟨h0, h1, h2, h3, h4⟩, h5⟩ := hS
    go_simp
    try with_reducible rfl
  case raU15 =>
  simp only [Act.put, List.setIfInBounds_toArray, List.set_cons_zero, List.set_cons_succ]
  refine RgN.n_take 24 ?vaU16 (by simp only [List.getElem?_toArray, List.getElem?_cons_zero, List.getElem?_cons_succ]; exact rfl) (by kernel_rfl) (by kernel_rfl) (by kernel_rfl) (RgN.safe_all _ _ _) (by rfl) hS0 ?yaU16 ?raU16
  case yaU16 =>
    intro w' hS
    obtain ⟨⟨h0, h1, h2, h3, h4⟩, h5⟩ := hS
    go_simp
    try with_reducible rfl
  case raU16 =>
  simp only [Act.put, List.setIfInBounds_toArray, List.set_cons_zero, List.set_cons_succ]
  refine RgN.n_one 3 (by kernel_rfl) (by simp only [List.getElem?_toArray, List.getElem?_cons_zero, List.getElem?_cons_succ]; exact rfl) (fun K hK => ?_)
  go_simp
  refine (hTa _).out.mono ?_
  rintro e u1 ⟨rfl, hb⟩
  have hS1 := UtS.of hWh.out (hS0.2.trans (hb.mono hS0.2.size))
  clear hb
  go_simp
  refine hK.out _ _ (fun _ => hS1) ?_
  clear hK K
  try simp only [Act.put, List.setIfInBounds_toArray, List.set_cons_zero, List.set_cons_succ]
  refine RgN.n_one 7 (by kernel_rfl) (by simp only [List.getElem?_toArray, List.getElem?_cons_zero, List.getElem?_cons_succ]; exact rfl) (fun K hK => ?_)
  go_simp
  refine (hTb _).out.mono ?_
  rintro e u2 ⟨rfl, hb⟩
  have hS2 := UtS.of hWh.out (hS1.2.trans (hb.mono hS1.2.size))
  clear hb
  go_simp
  refine hK.out _ _ (fun _ => hS2) ?_
  clear hK K
  try simp only [Act.put, List.setIfInBounds_toArray, List.set_cons_zero, List.set_cons_succ]
  refine RgN.n_take 8 ?vaU19 (by simp only [List.getElem?_toArray, List.getElem?_cons_zero, List.getElem?_cons_succ]; exact rfl) (by kernel_rfl) (by kernel_rfl) (by kernel_rfl) (RgN.safe_all _ _ _) (by rfl) hS2 ?yaU19 ?raU19
  case yaU19 =>
    intro w' hS
    obtain ⟨⟨h0, h1, h2, h3, h4⟩, h5⟩ := hS
    go_simp
    try with_reducible rfl
  case raU19 =>
  simp only [Act.put, List.setIfInBounds_toArray, List.set_cons_zero, List.set_cons_succ]
  refine RgN.n_one 11 (by kernel_rfl) (by simp only [List.getElem?_toArray, List.getElem?_cons_zero, List.getElem?_cons_succ]; exact rfl) (fun K hK => ?_)
  go_simp
  refine (hTc _).out.mono ?_
  rintro e u3 ⟨rfl, hb⟩
  have hS3 := UtS.of hWh.out (hS2.2.trans (hb.mono hS2.2.size))
  clear hb
  go_simp
  refine hK.out _ _ (fun _ => hS3) ?_
  clear hK K
  try simp only [Act.put, List.setIfInBounds_toArray, List.set_cons_zero, List.set_cons_succ]
  refine RgN.n_take 12 ?vaU21 (by simp only [List.getElem?_toArray, List.getElem?_cons_zero, List.getElem?_cons_succ]; exact rfl) (by kernel_rfl) (by kernel_rfl) (by kernel_rfl) (RgN.safe_all _ _ _) (by rfl) hS3 ?yaU21 ?raU21
  case yaU21 =>
    intro w' hS
    obtain ⟨⟨h0, h1, h2, h3, h4⟩, h5⟩ := hS
    go_simp
    try with_reducible rfl
  case raU21 =>
  simp only [Act.put, List.setIfInBounds_toArray, List.set_cons_zero, List.set_cons_succ]
  refine RgN.n_one 15 (by kernel_rfl) (by simp only [List.getElem?_toArray, List.getElem?_cons_zero, List.getElem?_cons_succ]; exact rfl) (fun K hK => ?_)
  go_simp
  refine (hTe _).out.mono ?_
  rintro e u4 ⟨rfl, hb⟩
  have hS4 := UtS.of hWh.out (hS3.2.trans (hb.mono hS3.2.size))
  clear hb
  go_simp
  refine hK.out _ _ (fun _ => hS4) ?_
  clear hK K
  try simp only [Act.put, List.setIfInBounds_toArray, List.set_cons_zero, List.set_cons_succ]
  refine RgN.n_take 16 ?vaU23 (by simp only [List.getElem?_toArray, List.getElem?_cons_zero, List.getElem?_cons_succ]; exact rfl) (by kernel_rfl) (by kernel_rfl) (by kernel_rfl) (RgN.safe_all _ _ _) (by rfl) hS4 ?yaU23 ?raU23
  case yaU23 =>
    intro w' hS
    obtain ⟨⟨h0, h1, h2, h3, h4⟩, h5⟩ := hS
    go_simp
    try with_reducible rfl
  case raU23 =>
  simp only [Act.put, List.setIfInBounds_toArray, List.set_cons_zero, List.set_cons_succ]
  refine RgN.n_one 20 (by kernel_rfl) (by simp only [List.getElem?_toArray, List.getElem?_cons_zero, List.getElem?_cons_succ]; exact rfl) (fun K hK => ?_)
  go_simp
  refine (hTh _).out.mono ?_
  rintro e u5 ⟨rfl, hb⟩
  have hS5 := UtS.of hWh.out (hS4.2.trans (hb.mono hS4.2.size))
  clear hb
  go_simp
  refine hK.out _ _ (fun _ => hS5) ?_
  clear hK K
  try simp only [Act.put, List.setIfInBounds_toArray, List.set_cons_zero, List.set_cons_succ]
  refine RgN.n_take 21 ?vaU25 (by simp only [List.getElem?_toArray, List.getElem?_cons_zero, List.getElem?_cons_succ]; exact rfl) (by kernel_rfl) (by kernel_rfl) (by kernel_rfl) (RgN.safe_all _ _ _) (by rfl) hS5 ?yaU25 ?raU25
  case yaU25 =>
    intro w' hS
    obtain ⟨⟨h0, h1, h2, h3, h4⟩, h5⟩ := hS
    go_simp
    try with_reducible rfl
  case raU25 =>
  simp only [Act.put, List.setIfInBounds_toArray, List.set_cons_zero, List.set_cons_succ]
  refine RgN.n_one 25 (by kernel_rfl) (by simp only [List.getElem?_toArray, List.getElem?_cons_zero, List.getElem?_cons_succ]; exact rfl) (fun K hK => ?_)
  go_simp
  refine (hTm _).out.mono ?_
  rintro e u6 ⟨rfl, hb⟩
  have hS6 := UtS.of hWh.out (hS5.2.trans (hb.mono hS5.2.size))
  clear hb
  go_simp
  refine hK.out _ _ (fun _ => hS6) ?_
  clear hK K
  try simp only [Act.put, List.setIfInBounds_toArray, List.set_cons_zero, List.set_cons_succ]
  refine RgN.n_take 26 ?vaU27 (by simp only [List.getElem?_toArray, List.getElem?_cons_zero, List.getElem?_cons_succ]; exact rfl) (by kernel_rfl) (by kernel_rfl) (by kernel_rfl) (RgN.safe_all _ _ _) (by rfl) hS6 ?yaU27 ?raU27
  case yaU27 =>
    intro w' hS
    obtain ⟨⟨h0, h1, h2, h3, h4⟩, h5⟩ := hS
    go_simp
    try with_reducible rfl
  case raU27 =>
  simp only [Act.put, List.setIfInBounds_toArray, List.set_cons_zero, List.set_cons_succ]
  refine RgN.n_take 27 ?vaU28 (by simp only [List.getElem?_toArray, List.getElem?_cons_zero, List.getElem?_cons_succ]; exact rfl) (by kernel_rfl) (by kernel_rfl) (by kernel_rfl) (RgN.safe_all _ _ _) (by rfl) hS6 ?yaU28 ?raU28
  case yaU28 =>
    intro w' hS
    obtain ⟨⟨h0, h1, h2, h3, h4⟩, h5⟩ := hS
    go_simp
    try with_reducible rfl
  case raU28 =>
  simp only [Act.put, List.setIfInBounds_toArray, List.set_cons_zero, List.set_cons_succ]
  refine RgN.n_one 28 (by kernel_rfl) (by simp only [List.getElem?_toArray, List.getElem?_cons_zero, List.getElem?_cons_succ]; exact rfl) (fun K hK => ?_)
  go_simp
  refine hK.out _ _ (fun _ => hS6) ?_
  clear hK K
  try simp only [Act.put, List.setIfInBounds_toArray, List.set_cons_zero, List.set_cons_succ]
  refine RgN.n_done (by kernel_rfl) ?_ _
  go_wp2_with fail
  go_ret
  exact ⟨by rw [← hout.out]; rfl, hB0.out.1.trans (hS6.2.mono hB0.out.2)⟩
end Mt
end Go.Proofs.YtnjodplnbfmjeaaGreatDoor
