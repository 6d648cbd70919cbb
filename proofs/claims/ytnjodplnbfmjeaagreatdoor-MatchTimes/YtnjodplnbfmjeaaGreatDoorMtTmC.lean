import Derived.Test.YtnjodplnbfmjeaaGreatDoorMtTmB
namespace Go.Proofs.YtnjodplnbfmjeaaGreatDoor
open Go.RowKit
set_option linter.unusedVariables false
set_option linter.unusedSimpArgs false
namespace Mt

set_option maxRecDepth 100000 in
set_option maxHeartbeats 2000000 in
theorem dayBehind_any (y mo d : Int) (w : World) (hy : 0 ≤ y ∧ y ≤ 9999) (hm : 1 ≤ mo ∧ mo ≤ 12) (hd : 1 ≤ d ∧ d ≤ 31) : Calls Tryz.prog 282 #[.agg #[.int .i64 y, .int .i64 mo, .int .i64 d]] w fun e w' => e = .returned (dV (behind y mo d)) ∧ Below w.heap.size w w' := by
  obtain ⟨y0, y1⟩ := hy
  obtain ⟨m0, m1⟩ := hm
  obtain ⟨d0, d1⟩ := hd
  obtain ⟨Wa, hWa⟩ : ∃ W, w.alloc (.cells #[.int .i64 y, .int .i64 mo, .int .i64 d] 310) = W := ⟨_, rfl⟩
  obtain ⟨Wb, hWb⟩ : ∃ W, Wa.alloc (.cells #[.int .i64 0, .int .i64 0, .int .i64 0] 310) = W := ⟨_, rfl⟩
  have na : Wa.heap.size = w.heap.size + 1 := by rw [← hWa]; simp
  have pa : DaV Wa w.heap.size (y, mo, d) := by rw [← hWa]; exact heap_alloc_last w _
  have pb1 : DaV Wb w.heap.size (y, mo, d) := by rw [← hWb]; exact pa.of_block (Below.heap_alloc _ _ _ pa.lt)
  have pb2 : DaV Wb (w.heap.size + 1) (0, 0, 0) := by rw [← hWb, ← na]; exact heap_alloc_last Wa _
  have hB : Below w.heap.size w Wb := by rw [← hWb, ← hWa]; exact ((Below.refl _ _).alloc (Nat.le_refl _) _).alloc (by simp) _
  have hB' : Below w.heap.size w Wb.drew := hB.trans ⟨rfl, rfl, rfl, Nat.le_refl _, fun _ _ => rfl⟩
  have pd2 : DaV Wb.drew (w.heap.size + 1) (0, 0, 0) := pb2
  have hsets : ∀ (V : World) (a b c : Int), DaV V (w.heap.size + 1) (0, 0, 0) → Below w.heap.size w V → Hid (DaV (((V.setCell ⟨w.heap.size + 1, 0, none⟩ (.int .i64 a)).setCell ⟨w.heap.size + 1, 1, none⟩ (.int .i64 b)).setCell ⟨w.heap.size + 1, 2, none⟩ (.int .i64 c)) (w.heap.size + 1) (a, b, c) ∧ Below w.heap.size w (((V.setCell ⟨w.heap.size + 1, 0, none⟩ (.int .i64 a)).setCell ⟨w.heap.size + 1, 1, none⟩ (.int .i64 b)).setCell ⟨w.heap.size + 1, 2, none⟩ (.int .i64 c))) := fun V a b c h1 h2 =>
    ⟨h1.whole (a, b, c), ((h2.setCell (Nat.le_succ _) _).setCell (Nat.le_succ _) _).setCell (Nat.le_succ _) _⟩
  obtain ⟨L, hL'⟩ : ∃ L, lastD y mo = L := ⟨_, rfl⟩
  have hL : Hid (lastD y mo = L) := hL'
  clear hL'
  obtain ⟨⟨c0, z0⟩, ⟨c1, z1⟩, ⟨c2, z2⟩⟩ := pb1.cells
  obtain ⟨⟨e0, f0⟩, ⟨e1, f1⟩, ⟨e2, f2⟩⟩ := pb2.cells
  dsimp only at c0 c1 c2 e0 e1 e2
  have hS0 : Wb.drew.cell? ⟨w.heap.size, 0, none⟩ = some (.int .i64 y) ∧ Wb.drew.cell? ⟨w.heap.size, 1, none⟩ = some (.int .i64 mo) ∧ Wb.drew.cell? ⟨w.heap.size, 2, none⟩ = some (.int .i64 d) := ⟨c0, c1, c2⟩
  clear pa pb1 pb2 hB
  by_cases h1 : d < L
  · have hr : Hid (behind y mo d = (y, mo, d + 1)) := by unfold Hid behind; rw [hL.out]; exact if_pos h1
    rw [hr.out]
    have hres := hsets Wb.drew y mo (d + 1) pd2 hB'
    clear hB' pd2 hsets
    go_enter Tryz.func282, Tryz.ntmps282
    go_upto_region 1 with fail
    refine Du.regionP (fun _ => true) (fun w' => w'.cell? ⟨w.heap.size, 0, none⟩ = some (.int .i64 y) ∧ w'.cell? ⟨w.heap.size, 1, none⟩ = some (.int .i64 mo) ∧ w'.cell? ⟨w.heap.size, 2, none⟩ = some (.int .i64 d)) (by kernel_rfl) ?_
    refine RgN.n_take 0 ?vaB1 (by simp only [List.getElem?_toArray, List.getElem?_cons_zero, List.getElem?_cons_succ]; exact rfl) (by kernel_rfl) (by kernel_rfl) (by kernel_rfl) (RgN.safe_all _ _ _) (by rfl) hS0 ?yaB1 ?raB1
    case yaB1 =>
      intro w' hS
      obtain ⟨h0, h1, h2⟩ := hS
      go_simp
      try with_reducible rfl
    case raB1 =>
    simp only [Act.put, List.setIfInBounds_toArray, List.set_cons_zero, List.set_cons_succ]
    refine RgN.n_take 2 ?vaB2 (by simp only [List.getElem?_toArray, List.getElem?_cons_zero, List.getElem?_cons_succ]; exact rfl) (by kernel_rfl) (by kernel_rfl) (by kernel_rfl) (RgN.safe_all _ _ _) (by rfl) hS0 ?yaB2 ?raB2
    case yaB2 =>
      intro w' hS
      obtain ⟨h0, h1, h2⟩ := hS
      go_simp
      try with_reducible rfl
    case raB2 =>
    simp only [Act.put, List.setIfInBounds_toArray, List.set_cons_zero, List.set_cons_succ]
    refine RgN.n_take 4 ?vaB3 (by simp only [List.getElem?_toArray, List.getElem?_cons_zero, List.getElem?_cons_succ]; exact rfl) (by kernel_rfl) (by kernel_rfl) (by kernel_rfl) (RgN.safe_all _ _ _) (by rfl) hS0 ?yaB3 ?raB3
    case yaB3 =>
      intro w' hS
      obtain ⟨h0, h1, h2⟩ := hS
      go_simp
      try with_reducible rfl
    case raB3 =>
    simp only [Act.put, List.setIfInBounds_toArray, List.set_cons_zero, List.set_cons_succ]
    refine RgN.n_take 1 ?vaB4 (by simp only [List.getElem?_toArray, List.getElem?_cons_zero, List.getElem?_cons_succ]; exact rfl) (by kernel_rfl) (by kernel_rfl) (by kernel_rfl) (RgN.safe_all _ _ _) (by rfl) hS0 ?yaB4 ?raB4
    case yaB4 =>
      intro w' hS
      obtain ⟨h0, h1, h2⟩ := hS
      go_simp
      try with_reducible rfl
    case raB4 =>
    simp only [Act.put, List.setIfInBounds_toArray, List.set_cons_zero, List.set_cons_succ]
    refine RgN.n_take 3 ?vaB5 (by simp only [List.getElem?_toArray, List.getElem?_cons_zero, List.getElem?_cons_succ]; exact rfl) (by kernel_rfl) (by kernel_rfl) (by kernel_rfl) (RgN.safe_all _ _ _) (by rfl) hS0 ?yaB5 ?raB5
    case yaB5 =>
      intro w' hS
      obtain ⟨h0, h1, h2⟩ := hS
      go_simp
      try with_reducible rfl
    case raB5 =>
    simp only [Act.put, List.setIfInBounds_toArray, List.set_cons_zero, List.set_cons_succ]
    refine RgN.n_take 5 ?vaB6 (by simp only [List.getElem?_toArray, List.getElem?_cons_zero, List.getElem?_cons_succ]; exact rfl) (by kernel_rfl) (by kernel_rfl) (by kernel_rfl) (RgN.safe_all _ _ _) (by rfl) hS0 ?yaB6 ?raB6
    case yaB6 =>
      intro w' hS
      obtain ⟨h0, h1, h2⟩ := hS
      go_simp
      try with_reducible rfl
    case raB6 =>
    simp only [Act.put, List.setIfInBounds_toArray, List.set_cons_zero, List.set_cons_succ]
    refine RgN.n_one 6 (by kernel_rfl) (by simp only [List.getElem?_toArray, List.getElem?_cons_zero, List.getElem?_cons_succ]; exact rfl) (fun K hK => ?_)
    go_simp
    refine (lastDay_any y mo _).mono ?_
    rintro e w1 ⟨rfl, rfl⟩
    rw [hL.out]
    go_simp
    refine hK.out _ _ (fun _ => hS0) ?_
    clear hK K
    try simp only [Act.put, List.setIfInBounds_toArray, List.set_cons_zero, List.set_cons_succ]
    refine RgN.n_one 7 (by kernel_rfl) (by simp only [List.getElem?_toArray, List.getElem?_cons_zero, List.getElem?_cons_succ]; exact rfl) (fun K hK => ?_)
    go_simp
    refine hK.out _ _ (fun _ => hS0) ?_
    clear hK K
    try simp only [Act.put, List.setIfInBounds_toArray, List.set_cons_zero, List.set_cons_succ]
    refine RgN.n_one 8 (by kernel_rfl) (by simp only [List.getElem?_toArray, List.getElem?_cons_zero, List.getElem?_cons_succ]; exact rfl) (fun K hK => ?_)
    go_simp
    refine hK.out _ _ (fun _ => hS0) ?_
    clear hK K
    try simp only [Act.put, List.setIfInBounds_toArray, List.set_cons_zero, List.set_cons_succ]
    refine RgN.n_done (by kernel_rfl) ?_ _
    go_wp2_with fail
    refine bodyPost_ret (resC _ _ _ rfl _ _ _ _ _ rfl (ld_da hres.out.1)) rfl ⟨rfl, hres.out.2⟩
  · by_cases h2 : mo < 12
    · have hr : Hid (behind y mo d = (y, mo + 1, 1)) := by unfold Hid behind; rw [hL.out]; exact (if_neg h1).trans (if_pos h2)
      rw [hr.out]
      have hres := hsets Wb.drew y (mo + 1) 1 pd2 hB'
      clear hB' pd2 hsets
      go_enter Tryz.func282, Tryz.ntmps282
      go_upto_region 1 with fail
      refine Du.regionP (fun _ => true) (fun w' => w'.cell? ⟨w.heap.size, 0, none⟩ = some (.int .i64 y) ∧ w'.cell? ⟨w.heap.size, 1, none⟩ = some (.int .i64 mo) ∧ w'.cell? ⟨w.heap.size, 2, none⟩ = some (.int .i64 d)) (by kernel_rfl) ?_
      refine RgN.n_take 0 ?vaB1 (by simp only [List.getElem?_toArray, List.getElem?_cons_zero, List.getElem?_cons_succ]; exact rfl) (by kernel_rfl) (by kernel_rfl) (by kernel_rfl) (RgN.safe_all _ _ _) (by rfl) hS0 ?yaB1 ?raB1
      case yaB1 =>
        intro w' hS
        obtain ⟨h0, h1, h2⟩ := hS
        go_simp
        try with_reducible rfl
      case raB1 =>
      simp only [Act.put, List.setIfInBounds_toArray, List.set_cons_zero, List.set_cons_succ]
      refine RgN.n_take 2 ?vaB2 (by simp only [List.getElem?_toArray, List.getElem?_cons_zero, List.getElem?_cons_succ]; exact rfl) (by kernel_rfl) (by kernel_rfl) (by kernel_rfl) (RgN.safe_all _ _ _) (by rfl) hS0 ?yaB2 ?raB2
      case yaB2 =>
        intro w' hS
        obtain ⟨h0, h1, h2⟩ := hS
        go_simp
        try with_reducible rfl
      case raB2 =>
      simp only [Act.put, List.setIfInBounds_toArray, List.set_cons_zero, List.set_cons_succ]
      refine RgN.n_take 4 ?vaB3 (by simp only [List.getElem?_toArray, List.getElem?_cons_zero, List.getElem?_cons_succ]; exact rfl) (by kernel_rfl) (by kernel_rfl) (by kernel_rfl) (RgN.safe_all _ _ _) (by rfl) hS0 ?yaB3 ?raB3
      case yaB3 =>
        intro w' hS
        obtain ⟨h0, h1, h2⟩ := hS
        go_simp
        try with_reducible rfl
      case raB3 =>
      simp only [Act.put, List.setIfInBounds_toArray, List.set_cons_zero, List.set_cons_succ]
      refine RgN.n_take 1 ?vaB4 (by simp only [List.getElem?_toArray, List.getElem?_cons_zero, List.getElem?_cons_succ]; exact rfl) (by kernel_rfl) (by kernel_rfl) (by kernel_rfl) (RgN.safe_all _ _ _) (by rfl) hS0 ?yaB4 ?raB4
      case yaB4 =>
        intro w' hS
        obtain ⟨h0, h1, h2⟩ := hS
        go_simp
        try with_reducible rfl
      case raB4 =>
      simp only [Act.put, List.setIfInBounds_toArray, List.set_cons_zero, List.set_cons_succ]
      refine RgN.n_take 3 ?vaB5 (by simp only [List.getElem?_toArray, List.getElem?_cons_zero, List.getElem?_cons_succ]; exact rfl) (by kernel_rfl) (by kernel_rfl) (by kernel_rfl) (RgN.safe_all _ _ _) (by rfl) hS0 ?yaB5 ?raB5
      case yaB5 =>
        intro w' hS
        obtain ⟨h0, h1, h2⟩ := hS
        go_simp
        try with_reducible rfl
      case raB5 =>
      simp only [Act.put, List.setIfInBounds_toArray, List.set_cons_zero, List.set_cons_succ]
      refine RgN.n_take 5 ?vaB6 (by simp only [List.getElem?_toArray, List.getElem?_cons_zero, List.getElem?_cons_succ]; exact rfl) (by kernel_rfl) (by kernel_rfl) (by kernel_rfl) (RgN.safe_all _ _ _) (by rfl) hS0 ?yaB6 ?raB6
      case yaB6 =>
        intro w' hS
        obtain ⟨h0, h1, h2⟩ := hS
        go_simp
        try with_reducible rfl
      case raB6 =>
      simp only [Act.put, List.setIfInBounds_toArray, List.set_cons_zero, List.set_cons_succ]
      refine RgN.n_one 6 (by kernel_rfl) (by simp only [List.getElem?_toArray, List.getElem?_cons_zero, List.getElem?_cons_succ]; exact rfl) (fun K hK => ?_)
      go_simp
      refine (lastDay_any y mo _).mono ?_
      rintro e w1 ⟨rfl, rfl⟩
      rw [hL.out]
      go_simp
      refine hK.out _ _ (fun _ => hS0) ?_
      clear hK K
      try simp only [Act.put, List.setIfInBounds_toArray, List.set_cons_zero, List.set_cons_succ]
      refine RgN.n_one 7 (by kernel_rfl) (by simp only [List.getElem?_toArray, List.getElem?_cons_zero, List.getElem?_cons_succ]; exact rfl) (fun K hK => ?_)
      go_simp
      refine hK.out _ _ (fun _ => hS0) ?_
      clear hK K
      try simp only [Act.put, List.setIfInBounds_toArray, List.set_cons_zero, List.set_cons_succ]
      refine RgN.n_one 8 (by kernel_rfl) (by simp only [List.getElem?_toArray, List.getElem?_cons_zero, List.getElem?_cons_succ]; exact rfl) (fun K hK => ?_)
      go_simp
      refine hK.out _ _ (fun _ => hS0) ?_
      clear hK K
      try simp only [Act.put, List.setIfInBounds_toArray, List.set_cons_zero, List.set_cons_succ]
      refine RgN.n_done (by kernel_rfl) ?_ _
      go_wp2_with fail
      refine bodyPost_ret (resC _ _ _ rfl _ _ _ _ _ rfl (ld_da hres.out.1)) rfl ⟨rfl, hres.out.2⟩
    · have hr : Hid (behind y mo d = (y + 1, 1, 1)) := by unfold Hid behind; rw [hL.out]; exact (if_neg h1).trans (if_neg h2)
      rw [hr.out]
      have hres := hsets Wb.drew (y + 1) 1 1 pd2 hB'
      clear hB' pd2 hsets
      go_enter Tryz.func282, Tryz.ntmps282
      go_upto_region 1 with fail
      refine Du.regionP (fun _ => true) (fun w' => w'.cell? ⟨w.heap.size, 0, none⟩ = some (.int .i64 y) ∧ w'.cell? ⟨w.heap.size, 1, none⟩ = some (.int .i64 mo) ∧ w'.cell? ⟨w.heap.size, 2, none⟩ = some (.int .i64 d)) (by kernel_rfl) ?_
      refine RgN.n_take 0 ?vaB1 (by simp only [List.getElem?_toArray, List.getElem?_cons_zero, List.getElem?_cons_succ]; exact rfl) (by kernel_rfl) (by kernel_rfl) (by kernel_rfl) (RgN.safe_all _ _ _) (by rfl) hS0 ?yaB1 ?raB1
      case yaB1 =>
        intro w' hS
        obtain ⟨h0, h1, h2⟩ := hS
        go_simp
        try with_reducible rfl
      case raB1 =>
      simp only [Act.put, List.setIfInBounds_toArray, List.set_cons_zero, List.set_cons_succ]
      refine RgN.n_take 2 ?vaB2 (by simp only [List.getElem?_toArray, List.getElem?_cons_zero, List.getElem?_cons_succ]; exact rfl) (by kernel_rfl) (by kernel_rfl) (by kernel_rfl) (RgN.safe_all _ _ _) (by rfl) hS0 ?yaB2 ?raB2
      case yaB2 =>
        intro w' hS
        obtain ⟨h0, h1, h2⟩ := hS
        go_simp
        try with_reducible rfl
      case raB2 =>
      simp only [Act.put, List.setIfInBounds_toArray, List.set_cons_zero, List.set_cons_succ]
      refine RgN.n_take 4 ?vaB3 (by simp only [List.getElem?_toArray, List.getElem?_cons_zero, List.getElem?_cons_succ]; exact rfl) (by kernel_rfl) (by kernel_rfl) (by kernel_rfl) (RgN.safe_all _ _ _) (by rfl) hS0 ?yaB3 ?raB3
      case yaB3 =>
        intro w' hS
        obtain ⟨h0, h1, h2⟩ := hS
        go_simp
        try with_reducible rfl
      case raB3 =>
      simp only [Act.put, List.setIfInBounds_toArray, List.set_cons_zero, List.set_cons_succ]
      refine RgN.n_take 1 ?vaB4 (by simp only [List.getElem?_toArray, List.getElem?_cons_zero, List.getElem?_cons_succ]; exact rfl) (by kernel_rfl) (by kernel_rfl) (by kernel_rfl) (RgN.safe_all _ _ _) (by rfl) hS0 ?yaB4 ?raB4
      case yaB4 =>
        intro w' hS
        obtain ⟨h0, h1, h2⟩ := hS
        go_simp
        try with_reducible rfl
      case raB4 =>
      simp only [Act.put, List.setIfInBounds_toArray, List.set_cons_zero, List.set_cons_succ]
      refine RgN.n_take 3 ?vaB5 (by simp only [List.getElem?_toArray, List.getElem?_cons_zero, List.getElem?_cons_succ]; exact rfl) (by kernel_rfl) (by kernel_rfl) (by kernel_rfl) (RgN.safe_all _ _ _) (by rfl) hS0 ?yaB5 ?raB5
      case yaB5 =>
        intro w' hS
        obtain ⟨h0, h1, h2⟩ := hS
        go_simp
        try with_reducible rfl
      case raB5 =>
      simp only [Act.put, List.setIfInBounds_toArray, List.set_cons_zero, List.set_cons_succ]
      refine RgN.n_take 5 ?vaB6 (by simp only [List.getElem?_toArray, List.getElem?_cons_zero, List.getElem?_cons_succ]; exact rfl) (by kernel_rfl) (by kernel_rfl) (by kernel_rfl) (RgN.safe_all _ _ _) (by rfl) hS0 ?yaB6 ?raB6
      case yaB6 =>
        intro w' hS
        obtain ⟨h0, h1, h2⟩ := hS
        go_simp
        try with_reducible rfl
      case raB6 =>
      simp only [Act.put, List.setIfInBounds_toArray, List.set_cons_zero, List.set_cons_succ]
      refine RgN.n_one 6 (by kernel_rfl) (by simp only [List.getElem?_toArray, List.getElem?_cons_zero, List.getElem?_cons_succ]; exact rfl) (fun K hK => ?_)
      go_simp
      refine (lastDay_any y mo _).mono ?_
      rintro e w1 ⟨rfl, rfl⟩
      rw [hL.out]
      go_simp
      refine hK.out _ _ (fun _ => hS0) ?_
      clear hK K
      try simp only [Act.put, List.setIfInBounds_toArray, List.set_cons_zero, List.set_cons_succ]
      refine RgN.n_one 7 (by kernel_rfl) (by simp only [List.getElem?_toArray, List.getElem?_cons_zero, List.getElem?_cons_succ]; exact rfl) (fun K hK => ?_)
      go_simp
      refine hK.out _ _ (fun _ => hS0) ?_
      clear hK K
      try simp only [Act.put, List.setIfInBounds_toArray, List.set_cons_zero, List.set_cons_succ]
      refine RgN.n_one 8 (by kernel_rfl) (by simp only [List.getElem?_toArray, List.getElem?_cons_zero, List.getElem?_cons_succ]; exact rfl) (fun K hK => ?_)
      go_simp
      refine hK.out _ _ (fun _ => hS0) ?_
      clear hK K
      try simp only [Act.put, List.setIfInBounds_toArray, List.set_cons_zero, List.set_cons_succ]
      refine RgN.n_done (by kernel_rfl) ?_ _
      go_wp2_with fail
      refine bodyPost_ret (resC _ _ _ rfl _ _ _ _ _ rfl (ld_da hres.out.1)) rfl ⟨rfl, hres.out.2⟩
end Mt
end Go.Proofs.YtnjodplnbfmjeaaGreatDoor
