import Derived.Test.YtnjodplnbfmjeaaGreatDoorMtTmK
namespace Go.Proofs.YtnjodplnbfmjeaaGreatDoor
open Go.RowKit
set_option linter.unusedVariables false
set_option linter.unusedSimpArgs false
namespace Mt

theorem guard_le (a b : Int) (p q : Bool) (hp : decide (0 ≤ a) = p) (hq : decide (a ≤ b) = q) : (p = true → 0 ≤ a) ∧ (p = false → a < 0) ∧ (q = true → a ≤ b) ∧ (q = false → b < a) := by
  refine ⟨fun e => ?_, fun e => ?_, fun e => ?_, fun e => ?_⟩
  · rw [e] at hp; exact of_decide_eq_true hp
  · rw [e] at hp; have := of_decide_eq_false hp; omega
  · rw [e] at hq; exact of_decide_eq_true hq
  · rw [e] at hq; have := of_decide_eq_false hq; omega
set_option maxRecDepth 100000 in
set_option maxHeartbeats 4000000 in
theorem tmN_any (l : List UInt8) (W : World) (ht : TbW W) (hl : l.length ≤ 4194304) : NormAt tmX 272 (S l) (timO (rdT l)) (timB (rdT l)) W := by
  show Calls _ _ _ _ _
  have hB : Hid (Below W.heap.size W (W.alloc (.cells #[] 78))) := (Below.refl _ _).alloc (Nat.le_refl _) _
  have hR : ∀ w, Hid (Calls Tryz.prog 273 #[.string (S l)] w fun e w' => e = .returned (rdV (rdT l)) ∧ Below w.heap.size w w') := fun w => readTime_any l w hl
  have hok : Hid ((rdT l).2.2 = true → MomOk (rdT l).1 l.length ∧ -1439 ≤ (rdT l).2.1 ∧ (rdT l).2.1 ≤ 1439) := rd_ok
  have hll : Hid (l.length ≤ 4194304) := hl
  have hT0 : Hid (TbW W) := ht
  generalize rdT l = x at *
  obtain ⟨⟨y, mo, d, h, mi, s, f⟩, z, b⟩ := x
  obtain ⟨o1, ho1⟩ : ∃ o, timO ((y, mo, d, h, mi, s, f), z, b) = o := ⟨_, rfl⟩
  obtain ⟨o2, ho2⟩ : ∃ o, timB ((y, mo, d, h, mi, s, f), z, b) = o := ⟨_, rfl⟩
  rw [ho1, ho2]
  have ho : Hid (timO ((y, mo, d, h, mi, s, f), z, b) = o1 ∧ timB ((y, mo, d, h, mi, s, f), z, b) = o2) := ⟨ho1, ho2⟩
  unfold rdV at hR
  dsimp only at hR
  clear ho1 ho2 hl ht
  cases b with
  | false =>
    have ho' : Hid (o1 = ⟨#[]⟩ ∧ o2 = false) := ⟨by rw [← ho.out.1]; rfl, by rw [← ho.out.2]; rfl⟩
    clear ho hok
    go_enter Tryz.func272, Tryz.ntmps272
    go_wp2_with fail
    refine (hR _).out.mono ?_
    rintro e w1 ⟨rfl, hb1⟩
    have h1 : Hid (Below W.heap.size W w1) := hB.out.trans (hb1.mono hB.out.size)
    clear hb1 hR
    have hfin : Hid (∀ v, Below W.heap.size W (w1.alloc v)) := fun v => h1.out.alloc h1.out.size v
    go_wp2_with fail
    go_ret2
    rw [ho'.out.1, ho'.out.2]
    exact ⟨rfl, hfin.out _⟩
  | true =>
    obtain ⟨hmom, z0, z1⟩ := hok.out rfl
    obtain ⟨hy, hmo, hd, hh, hmi, hs, hf⟩ := hmom
    have hy : 0 ≤ y ∧ y ≤ 9999 := hy
    have hmo : 1 ≤ mo ∧ mo ≤ 12 := hmo
    have hd : 1 ≤ d ∧ d ≤ 31 := hd
    have hh : 0 ≤ h ∧ h ≤ 23 := hh
    have hmi : 0 ≤ mi ∧ mi ≤ 59 := hmi
    have hs : 0 ≤ s ∧ s ≤ 59 := hs
    have hf : f.length ≤ l.length := hf
    have hBk : ∀ w, Hid (Calls Tryz.prog 274 #[.agg #[.int .i64 y, .int .i64 mo, .int .i64 d, .int .i64 h, .int .i64 mi, .int .i64 s, .string (S f)], .int .i64 z] w fun e w' => e = .returned (backV y mo d h mi s (S f) z) ∧ Below w.heap.size w w') := fun w => back_any y mo d h mi s (S f) z w hy hmo hd hh hmi ⟨z0, z1⟩
    have hbb := backD_bnd (y := y) (mo := mo) (d := d) (tot := h * 60 + mi - z) hmo hd
    have htt : 0 ≤ backT (h * 60 + mi - z) ∧ backT (h * 60 + mi - z) < 1440 := by
      have z0 : -1439 ≤ z := z0
      have z1 : z ≤ 1439 := z1
      unfold backT
      split
      · omega
      · split <;> omega
    unfold backV at hBk
    have ho : Hid ((if (decide (0 ≤ (backD y mo d (h * 60 + mi - z)).1) && decide ((backD y mo d (h * 60 + mi - z)).1 ≤ 9999)) = true then S (stampL (backD y mo d (h * 60 + mi - z)).1.toNat (backD y mo d (h * 60 + mi - z)).2.1.toNat (backD y mo d (h * 60 + mi - z)).2.2.toNat ((backT (h * 60 + mi - z)).tdiv 60).toNat ((backT (h * 60 + mi - z)).tmod 60).toNat s.toNat f) else ⟨#[]⟩) = o1 ∧ (decide (0 ≤ (backD y mo d (h * 60 + mi - z)).1) && decide ((backD y mo d (h * 60 + mi - z)).1 ≤ 9999)) = o2) := ho
    obtain ⟨⟨p1, p2, p3⟩, hp⟩ : ∃ p, backD y mo d (h * 60 + mi - z) = p := ⟨_, rfl⟩
    obtain ⟨q, hq⟩ : ∃ q, (backT (h * 60 + mi - z)).tdiv 60 = q := ⟨_, rfl⟩
    obtain ⟨r, hr⟩ : ∃ r, (backT (h * 60 + mi - z)).tmod 60 = r := ⟨_, rfl⟩
    have hqr : (0 ≤ q ∧ q < 24) ∧ (0 ≤ r ∧ r < 60) := by
      rw [← hq, ← hr, Int.tdiv_eq_ediv_of_nonneg htt.1, Int.tmod_eq_emod_of_nonneg htt.1]
      omega
    rw [hp, hq, hr] at ho
    rw [hp] at hbb
    simp only [hp, hq, hr] at hBk
    have ho : Hid ((if (decide (0 ≤ p1) && decide (p1 ≤ 9999)) = true then S (stampL p1.toNat p2.toNat p3.toNat q.toNat r.toNat s.toNat f) else ⟨#[]⟩) = o1 ∧ (decide (0 ≤ p1) && decide (p1 ≤ 9999)) = o2) := ho
    have hbb : (1 ≤ p2 ∧ p2 ≤ 12) ∧ (1 ≤ p3 ∧ p3 ≤ 31) := hbb
    clear htt hp hq hr hy hmo hd hh hmi hok
    have hSt : 0 ≤ p1 → p1 ≤ 9999 → ∀ w, TbW w → Hid (Calls Tryz.prog 275 #[.agg #[.int .i64 p1, .int .i64 p2, .int .i64 p3, .int .i64 q, .int .i64 r, .int .i64 s, .string (S f)]] w fun e w' => e = .returned (.string (S (stampL p1.toNat p2.toNat p3.toNat q.toNat r.toNat s.toNat f))) ∧ Below w.heap.size w w') := fun e1 e2 w hw => by
      have := stamp_any p1.toNat p2.toNat p3.toNat q.toNat r.toNat s.toNat f w hw (by omega) (by omega) (by omega) (by omega) (by omega) (by omega) (Nat.le_trans hf hll.out)
      unfold mV at this
      rw [Int.toNat_of_nonneg e1, Int.toNat_of_nonneg (by omega : 0 ≤ p2), Int.toNat_of_nonneg (by omega : 0 ≤ p3), Int.toNat_of_nonneg hqr.1.1, Int.toNat_of_nonneg hqr.2.1, Int.toNat_of_nonneg hs.1] at this
      exact this
    clear hbb hqr hs hf z0 z1
    have hgo : ∀ w1, Below W.heap.size W w1 → Hid (MoV (w1.alloc (.cells #[.int .i64 y, .int .i64 mo, .int .i64 d, .int .i64 h, .int .i64 mi, .int .i64 s, .string (S f)] 312)) w1.heap.size y mo d h mi s (S f) ∧ Below W.heap.size W (w1.alloc (.cells #[.int .i64 y, .int .i64 mo, .int .i64 d, .int .i64 h, .int .i64 mi, .int .i64 s, .string (S f)] 312))) := fun w1 hb => ⟨heap_alloc_last w1 _, hb.alloc hb.size _⟩
    have hgo2 : ∀ w1, Below W.heap.size W w1 → Hid (MoV (w1.alloc (.cells #[.int .i64 p1, .int .i64 p2, .int .i64 p3, .int .i64 q, .int .i64 r, .int .i64 s, .string (S f)] 312)) w1.heap.size p1 p2 p3 q r s (S f) ∧ Below W.heap.size W (w1.alloc (.cells #[.int .i64 p1, .int .i64 p2, .int .i64 p3, .int .i64 q, .int .i64 r, .int .i64 s, .string (S f)] 312))) := fun w1 hb => ⟨heap_alloc_last w1 _, hb.alloc hb.size _⟩
    go_enter Tryz.func272, Tryz.ntmps272
    go_wp2_with fail
    refine (hR _).out.mono ?_
    rintro e w1 ⟨rfl, hb1⟩
    have h1 : Hid (Below W.heap.size W w1) := hB.out.trans (hb1.mono hB.out.size)
    have hg1 := hgo w1 h1.out
    clear hb1 hR hgo
    go_upto_region 4 with fail
    obtain ⟨W2, hW2⟩ : ∃ X, w1.alloc (.cells #[.int .i64 y, .int .i64 mo, .int .i64 d, .int .i64 h, .int .i64 mi, .int .i64 s, .string (S f)] 312) = X := ⟨_, rfl⟩
    rw [hW2] at hg1 ⊢
    obtain ⟨⟨c0, c1, c2, c3, c4, c5, c6⟩, cf⟩ := hg1.out.1.cells
    clear hW2
    go_wp2_with fail
    refine (hBk _).out.mono ?_
    rintro e w3 ⟨rfl, hb3⟩
    have h3 : Hid (Below W.heap.size W w3) := hg1.out.2.trans (hb3.mono hg1.out.2.size)
    have hg3 := hgo2 w3 h3.out
    clear hb3 hBk hgo2 hg1 c0 c1 c2 c3 c4 c5 c6 cf
    go_upto_region 5 with fail
    obtain ⟨W4, hW4⟩ : ∃ X, w3.alloc (.cells #[.int .i64 p1, .int .i64 p2, .int .i64 p3, .int .i64 q, .int .i64 r, .int .i64 s, .string (S f)] 312) = X := ⟨_, rfl⟩
    rw [hW4] at hg3 ⊢
    obtain ⟨⟨c0, c1, c2, c3, c4, c5, c6⟩, cf⟩ := hg3.out.1.cells
    clear hW4
    by_cases k0 : 0 ≤ p1
    · by_cases k1 : p1 ≤ 9999
      · have hS2 := hSt k0 k1 W4 (hT0.out.below hg3.out.2)
        have hE : Hid (o1 = S (stampL p1.toNat p2.toNat p3.toNat q.toNat r.toNat s.toNat f) ∧ o2 = true) := by
          have e : (decide (0 ≤ p1) && decide (p1 ≤ 9999)) = true := by rw [decide_eq_true k0, decide_eq_true k1]; rfl
          rw [e, if_pos rfl] at ho
          exact ⟨ho.out.1.symm, ho.out.2.symm⟩
        have k2 : ¬ p1 < 0 := by omega
        have k3 : ¬ 9999 < p1 := by omega
        clear ho hSt
        generalize stampL p1.toNat p2.toNat p3.toNat q.toNat r.toNat s.toNat f = st at *
        go_wp2_with fail
        refine hS2.out.mono ?_
        rintro e w5 ⟨rfl, hb5⟩
        have h5 : Hid (Below W.heap.size W w5) := hg3.out.2.trans (hb5.mono hg3.out.2.size)
        clear hb5 hS2
        go_wp2_with fail
        go_ret2
        rw [hE.out.1, hE.out.2]
        exact ⟨rfl, h5.out⟩
      · have hE : Hid (o1 = ⟨#[]⟩ ∧ o2 = false) := by
          have e : (decide (0 ≤ p1) && decide (p1 ≤ 9999)) = false := by rw [decide_eq_false k1, Bool.and_false]
          rw [e, if_neg (by decide)] at ho
          exact ⟨ho.out.1.symm, ho.out.2.symm⟩
        have k2 : ¬ p1 < 0 := by omega
        have k3 : 9999 < p1 := by omega
        clear ho hSt
        go_wp2_with fail
        go_ret2
        rw [hE.out.1, hE.out.2]
        exact ⟨rfl, hg3.out.2⟩
    · have hE : Hid (o1 = ⟨#[]⟩ ∧ o2 = false) := by
        have e : (decide (0 ≤ p1) && decide (p1 ≤ 9999)) = false := by rw [decide_eq_false k0, Bool.false_and]
        rw [e, if_neg (by decide)] at ho
        exact ⟨ho.out.1.symm, ho.out.2.symm⟩
      have k2 : p1 < 0 := by omega
      clear ho hSt
      go_wp2_with fail
      go_ret2
      rw [hE.out.1, hE.out.2]
      exact ⟨rfl, hg3.out.2⟩
end Mt
end Go.Proofs.YtnjodplnbfmjeaaGreatDoor
