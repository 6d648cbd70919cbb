import Derived.Test.YteiikipldejeeaaDoorAsX
import Derived.Deep.RegionHeld3
import Derived.Deep.RegionWith
import Derived.WalkSmall
import Derived.BigQuiet
import Derived.Deep.DeepCutAuto
namespace Go.Proofs.YteiikipldejeeaaDoor
open Go.RowKit
open TextMath (fold lo)
set_option linter.unusedVariables false

set_option maxRecDepth 100000 in
set_option maxHeartbeats 4000000 in
theorem spell_in (K : Nat) (ua : Option Addr) (un uc : Nat) (U : Nat → Bool) (a : Option Addr) (n c : Nat) (X : Nat → ByteArray) (w : World) (hU : Boos w ua un U) (hX : Strs w a n X) (hsz : totM X n ≤ 1048576) (hS : SupTab w) (hY : SynTab w) (hN : NumT3 w) (hK : KnT3 w) (hKt : K < 10) :
    Calls Tryd.prog 3 #[.int .i64 (K : Int), .slice ua un uc, .slice a n c] w fun e w' => e = .returned (.bool true) ∧ Below w.heap.size w w' := by
  have hH : Hid (Boos w ua un U ∧ True ∧ Strs w a n X ∧ totM X n ≤ 1048576) := ⟨hU, trivial, hX, hsz⟩
  have hTb : Hid (SupTab w ∧ SynTab w ∧ NumT3 w ∧ KnT3 w) := ⟨hS, hY, hN, hK⟩
  clear hU hX hsz hS hY hN hK
  have hTu : ∀ (y : List UInt8) (W : World), y.length ≤ 4194304 → Below w.heap.size w W → Hid (Calls Tryd.prog 5 #[.string (S y), .slice ua un uc] W fun e w' => e = .returned (.string (S (trn (ups un U) y))) ∧ Below W.heap.size W w') := fun y W hy hb => by
    have h := turned_any (S y) ua un uc U W (by rw [S_size]; exact hy) (hH.out.1.below hb)
    rw [S_l] at h
    exact h
  have hTu' : Hid (∀ (y : List UInt8) (W : World), y.length ≤ 4194304 → Below w.heap.size w W → Hid (Calls Tryd.prog 5 #[.string (S y), .slice ua un uc] W fun e w' => e = .returned (.string (S (trn (ups un U) y))) ∧ Below W.heap.size W w')) := hTu
  clear hTu
  obtain ⟨u, hu⟩ : ∃ u, ups un U = u := ⟨_, rfl⟩
  rw [hu] at hTu'
  clear hu
  go_enter Tryd.func3, Tryd.ntmps3
  have p0 : ¬ (K : Int) < 0 := by omega
  have p1 : ¬ (K : Int) ≥ 10 := by omega
  have p2 : (0 : Int) ≤ (K : Int) := by omega
  have p3 : (K : Int) < 10 := by omega
  go_wp2_with fail
  clear p0 p1
  go_loopw [7, 8, 9] (fun tv bv iv wr => ∃ (k : Nat) (T B : ByteArray) (os : List (List UInt8)), k ≤ n ∧ k ≤ 20 ∧ tv = .string T ∧ bv = .string B ∧ iv = .int .i64 (k : Int) ∧ Hid (MidO u (totM X k + k) T B os) ∧ Hid (Below w.heap.size w wr)) (fun _ _ iv _ => n - (intOf iv).toNat)
  case atStart => exact ⟨0, _, _, [], Nat.zero_le _, Nat.zero_le _, rfl, rfl, rfl, ⟨rfl, rfl, by simp [semis], by simp⟩, Below.refl _ _⟩
  case round =>
    obtain ⟨k, T, B, os, hkn, hk2, rfl, rfl, rfl, hM, hB⟩ := hrel
    have hmz : Hid (totM X k + k ≤ 1048600) := by
      have := Nat.le_trans (totM_le X n k hkn) hH.out.2.2.2
      show _ ≤ _
      omega
    have hTz : Hid (T.size ≤ 2097200 ∧ B.size ≤ 1048600) := by
      have := hM.out.sizes
      have := hmz.out
      constructor <;> omega
    by_cases hgo : k < n ∧ k < 20
    · obtain ⟨hlt, hl2⟩ := hgo
      have k1 : (k : Int) < (n : Int) := Int.ofNat_lt.2 hlt
      have k2 : (k : Int) < 20 := by omega
      have k0 : (0 : Int) ≤ (k : Int) := Int.natCast_nonneg _
      obtain ⟨b, off, rfl, hc⟩ := (hH.out.2.2.1.below hB.out) k hlt
      have hXk : (X k).size + 1 + totM X k ≤ 1048576 := by
        have h1 := totM_le X n (k + 1) hlt
        have h2 : totM X (k + 1) = totM X k + ((X k).size + 1) := rfl
        have := hH.out.2.2.2
        omega
      have hOp := option_any (X k) wr (by omega)
      have hyo := opt_ok (X k).data.toList
      have hyl := opt_len (X k).data.toList
      rw [size_l] at hyl
      generalize opt (X k).data.toList = y at *
      have hM' : Hid (MidO u (totM X (k + 1) + (k + 1)) ((((T ++ ⟨#[59]⟩) ++ S y) ++ ⟨#[59]⟩) ++ S (trn u y)) ((⟨#[59]⟩ ++ S y) ++ B) (os ++ [y])) := hM.out.step y _ (by
        have h2 : totM X (k + 1) = totM X k + ((X k).size + 1) := rfl
        omega) hyo
      have hyz : Hid (y.length ≤ 1048576) := by show _ ≤ _; omega
      have hTy : ∀ W, Below w.heap.size w W → Hid (Calls Tryd.prog 5 #[.string (S y), .slice ua un uc] W fun e w' => e = .returned (.string (S (trn u y))) ∧ Below W.heap.size W w') := fun W hW => (hTu'.out y W (by have := hyz.out; omega) hW).out
      have z1 := hTz.out.1
      have z2 := hTz.out.2
      have z3 : (S y).size ≤ 1048576 := by rw [S_size]; exact hyz.out
      have z4 : (S (trn u y)).size ≤ 1048576 := by rw [S_size, trn_len]; exact hyz.out
      have c1 : ¬ T.size + 1 > 9223372036854775807 := by omega
      have c2 : ¬ T.size + 1 + (S y).size > 9223372036854775807 := by omega
      have c3 : ¬ T.size + 1 + (S y).size + 1 > 9223372036854775807 := by omega
      have c4 : ¬ T.size + 1 + (S y).size + 1 + (S (trn u y)).size > 9223372036854775807 := by omega
      have c5 : ¬ 1 + (S y).size > 9223372036854775807 := by omega
      have c6 : ¬ 1 + (S y).size + B.size > 9223372036854775807 := by omega
      clear hyo hyl hXk hM hTz hmz hyz z1 z2 z3 z4 hk2 hkn
      generalize S (trn u y) = Q at *
      generalize S y = Y at *
      go_wp2_with fail
      refine hOp.mono ?_
      rintro e W2 ⟨rfl, hb2⟩
      have o2 : Hid (Below w.heap.size w W2) := hB.out.trans (hb2.mono hB.out.size)
      have h3 := hTy W2 o2.out
      clear hOp hb2 hTy
      go_wp2_with fail
      refine h3.out.mono ?_
      rintro e W3 ⟨rfl, hb3⟩
      have o3 : Hid (Below w.heap.size w W3) := o2.out.trans (hb3.mono o2.out.size)
      clear h3 hb3 o2
      go_wp2_with fail
      go_roundw
      case rel => exact ⟨k + 1, _, _, _, hlt, hl2, rfl, rfl, by simp, hM'.out, o3.out⟩
      case measure => simp [intOf]; omega
    · have hex : (¬ (k : Int) < (n : Int)) ∨ ((k : Int) < (n : Int) ∧ ¬ (k : Int) < 20) := by omega
      obtain ⟨sp, al, ug, hFi⟩ := finds_any K hKt
      have hcel : Hid (∀ W, Below w.heap.size w W → ∀ j, j < 3 → W.cell? ⟨0, K * 3 + j, none⟩ = some (.string (S (kn K j)))) := fun W hW j hj => (hTb.out.2.2.2.below hW) K j hKt hj
      have hC0 := can0_any hM.out hmz.out K hKt wr
      have hpre : Hid (∀ F, Can0 u K os F → (S (kn K 0)).size ≤ F.size ∧ F.extract 0 (S (kn K 0)).size = S (kn K 0)) := fun F hF => can0_pre hKt hM.out.2.2.2 hF
      have hF0 : Hid (∀ W, NumT3 W → Calls Tryd.prog 8 #[.string (S (kn K 0))] W fun e w' => (∃ a1 a2 a3, e = .returned (.tuple #[.agg #[.string (S (kn K 0)), .slice a1 a2 a3, .string (S (kn K 2)), .string sp, .int .i64 (SYN.getD (kr K) 0), .int .i64 ug], .bool true]) ∧ AlIs w' al (.slice a1 a2 a3)) ∧ Below W.heap.size W w') := fun W hW => hFi (kn K 0) 0 W (by omega) rfl hW
      have hFj : Hid (∀ j, j < 3 → ∀ W, NumT3 W → Calls Tryd.prog 8 #[.string (S (trn u (kn K j)))] W fun e w' => (∃ a1 a2 a3, e = .returned (.tuple #[.agg #[.string (S (kn K 0)), .slice a1 a2 a3, .string (S (kn K 2)), .string sp, .int .i64 (SYN.getD (kr K) 0), .int .i64 ug], .bool true]) ∧ AlIs w' al (.slice a1 a2 a3)) ∧ Below W.heap.size W w') := fun j hj W hW => hFi (trn u (kn K j)) j W hj (trn_fold u (kn K j)) hW
      have hAj : Hid (∀ j, j < 3 → ∀ W, SupTab W → Calls Tryd.prog 9 #[.string (S (kn K 0) ++ T), .string (S (trn u (kn K j)) ++ B)] W fun e w' => e = .returned (.bool true) ∧ Below W.heap.size W w') := fun j hj W hW => covA_any hM.out hmz.out K j hKt hj W hW
      have hBj' : Hid (∀ j, j < 3 → ∀ W, SupTab W → Calls Tryd.prog 9 #[.string (S (trn u (kn K j)) ++ B), .string (S (kn K 0) ++ T)] W fun e w' => e = .returned (.bool true) ∧ Below W.heap.size W w') := fun j hj W hW => covB_any hM.out hmz.out K j hKt hj W hW
      have hYj : Hid (∀ j, j < 3 → ∀ W, SynTab W → Calls Tryd.prog 10 #[.string (S (trn u (kn K j)) ++ B)] W fun e w' => e = .returned (.int .i64 (SYN.getD (kr K) 0)) ∧ Below W.heap.size W w') := fun j hj W hW => synj_any hM.out hmz.out K j hKt hj W hW
      have hCj : Hid (∀ j, j < 3 → ∀ F, Can0 u K os F → ∀ W, Calls Tryd.prog 6 #[.string (S (trn u (kn K j)) ++ B)] W fun e w' => e = .returned (.tuple #[.string F, .int .i64 0, .int .i64 ((S (trn u (kn K j)) ++ B).size : Int)]) ∧ Below W.heap.size W w') := fun j hj F hF W => canj_any hM.out hmz.out K j hKt hj F hF W
      have hTj : Hid (∀ j, j < 3 → ∀ W, Below w.heap.size w W → Calls Tryd.prog 5 #[.string (S (kn K j)), .slice ua un uc] W fun e w' => e = .returned (.string (S (trn u (kn K j)))) ∧ Below W.heap.size W w') := fun j hj W hW => (hTu'.out (kn K j) W (by have := (z_back hM.out hmz.out K j hKt hj).2.2.2; omega) hW).out
      have hzj : Hid (∀ j, j < 3 → (S (trn u (kn K j))).size ≤ 26) := fun j hj => (z_back hM.out hmz.out K j hKt hj).2.2.1
      have hz0 := (z_there hM.out hmz.out K hKt).2.2
      have q0 := hcel.out wr hB.out 0 (by omega)
      have hz2 : Hid (∀ W, Below w.heap.size w W → W.cell? ⟨0, K * 3 + 2, none⟩ = some (.string (S (kn K 2)))) := fun W hW => hcel.out W hW 2 (by omega)
      have hq0 : Hid (∀ W, Below w.heap.size w W → W.cell? ⟨0, K * 3, none⟩ = some (.string (S (kn K 0)))) := fun W hW => hcel.out W hW 0 (by omega)
      have q0 := hq0.out wr hB.out
      have d0 : ¬ (S (kn K 0)).size + T.size > 9223372036854775807 := by have := hTz.out.1; omega
      generalize SYN.getD (kr K) 0 = sy at *
      generalize S (kn K 2) = z2 at *
      obtain ⟨z0, hz0e⟩ : ∃ z, S (kn K 0) = z := ⟨_, rfl⟩
      have hz0' : Hid (z0.size ≤ 26) := by rw [← hz0e]; exact hz0
      rw [hz0e] at q0 hC0 hpre hF0 hFj hAj hBj' hq0 d0
      clear hFi hz0 hgo
      rcases hex with k1 | ⟨k1, k2⟩
      · go_wp2_with fail
        refine hC0.mono ?_
        rintro e W1 ⟨⟨F, rfl, hF⟩, hb1⟩
        have hBw : Below w.heap.size w W1 := hB.out.trans (hb1.mono hB.out.size)
        have hF' : Hid (Can0 u K os F) := hF
        have e0 := (hpre.out F hF).1
        have e1 : ¬ (F.size : Int) < (z0.size : Int) := by omega
        have e2 : ((F.extract 0 z0.size).toList == z0.toList) = true := by rw [(hpre.out F hF).2]; simp
        have e3 : (0 : Int) ≤ (z0.size : Int) := by omega
        have e4 : (z0.size : Int) ≤ (F.size : Int) := by omega
        have e7 : ¬ F.size < z0.size := by omega
        have e5 : decide ((F.size : Int) < (z0.size : Int)) = false := decide_eq_false e1
        have r1 : ∀ W : World, (binOp .lss 3 (.int .i64 (F.size : Int)) (.int .i64 (z0.size : Int))).run Tryd.prog W = .ok (.bool false) W := fun W => by
          have h : (binOp .lss 3 (.int .i64 (F.size : Int)) (.int .i64 (z0.size : Int))).run Tryd.prog W = .ok (.bool (decide ((F.size : Int) < (z0.size : Int)))) W := rfl
          rw [h, e5]
        clear hC0 hb1 hF q0 d0 hB
        have q0 := hq0.out W1 hBw
        go_wp2_with fail
        go_region_held3 (fun w' => w'.cell? ⟨0, K * 3, none⟩ = some (.string z0) ∧ Below w.heap.size w w')
          (first
            | exact ⟨hq0.out _ hBw.drew, hBw.drew⟩
            | exact ⟨hq0.out _ HB1, HB1⟩)
          (first
            | (go_at_call 7; refine (numS_any 0 _).mono ?_; rintro e w1 ⟨rfl, hw1⟩; have HB1 : Below w.heap.size w w1 := (by rw [hw1]; exact hBw.drew); clear hw1))
        have o1 : Hid (Below w.heap.size w w1) := HB1
        have h2 := hF0.out w1 (hTb.out.2.2.1.below HB1)
        have q1 := hq0.out w1 HB1
        clear q0 hBw HB1 e0 e1 e2 e3 e4 e5 e7 r1
        go_wp2_with fail
        refine h2.mono ?_
        rintro e W2 ⟨⟨a1, a2, a3, rfl, hal⟩, hb2⟩
        have o2 : Hid (Below w.heap.size w W2) := o1.out.trans (hb2.mono o1.out.size)
        have hal' : Hid (AlIs W2 al (.slice a1 a2 a3)) := hal
        clear h2 q1 hb2 hal o1
        obtain ⟨W3, hW3⟩ : ∃ W3, W2.alloc (.cells #[.string z0, .slice a1 a2 a3, .string z2, .string sp, .int .i64 sy, .int .i64 ug] 35) = W3 := ⟨_, rfl⟩
        have hB3 : Below W2.heap.size W2 W3 := by rw [← hW3]; exact (Below.refl _ _).alloc (Nat.le_refl _) _
        have hrw : W3.heap[W2.heap.size]? = some (.cells #[.string z0, .slice a1 a2 a3, .string z2, .string sp, .int .i64 sy, .int .i64 ug] 35 (0, 0)) := by rw [← hW3]; exact heap_alloc_last W2 _
        have o3 : Hid (Below w.heap.size w W3) := o2.out.trans (hB3.mono o2.out.size)
        have hal3 : Hid (AlIs W3 al (.slice a1 a2 a3)) := hal'.out.below hB3
        have x0 := (row_cell hrw (j := 0) (by simp)).1
        have x1 := (row_cell hrw (j := 1) (by simp)).1
        have x2 := (row_cell hrw (j := 2) (by simp)).1
        have x3 := (row_cell hrw (j := 3) (by simp)).1
        have x4 := (row_cell hrw (j := 4) (by simp)).1
        have x5 := (row_cell hrw (j := 5) (by simp)).1
        simp only [List.getElem_toArray, List.getElem_cons_zero, List.getElem_cons_succ] at x0 x1 x2 x3 x4 x5
        have hx : Hid (∀ W, Below W3.heap.size W3 W → W.cell? ⟨W2.heap.size, 0, none⟩ = some (.string z0) ∧ W.cell? ⟨W2.heap.size, 1, none⟩ = some (.slice a1 a2 a3) ∧ W.cell? ⟨W2.heap.size, 2, none⟩ = some (.string z2) ∧ W.cell? ⟨W2.heap.size, 3, none⟩ = some (.string sp) ∧ W.cell? ⟨W2.heap.size, 4, none⟩ = some (.int .i64 sy) ∧ W.cell? ⟨W2.heap.size, 5, none⟩ = some (.int .i64 ug)) := fun W hW => by
          refine ⟨?_, ?_, ?_, ?_, ?_, ?_⟩
          · rw [hW.cell (World.block_lt_of_cell? _ _ x0)]; exact x0
          · rw [hW.cell (World.block_lt_of_cell? _ _ x1)]; exact x1
          · rw [hW.cell (World.block_lt_of_cell? _ _ x2)]; exact x2
          · rw [hW.cell (World.block_lt_of_cell? _ _ x3)]; exact x3
          · rw [hW.cell (World.block_lt_of_cell? _ _ x4)]; exact x4
          · rw [hW.cell (World.block_lt_of_cell? _ _ x5)]; exact x5
        have q2 := hq0.out W3 o3.out
        have q3 := hz2.out W3 o3.out
        clear hB3 hrw hal' o2 x1 x3 x4 x5
        go_wp2_with fail
        go_quiet (fail)
        have oq : Hid (Below W3.heap.size W3 (W3.drewN nq)) := below_drewN (Below.refl _ _) _
        have hSS : Hid (∀ W, Below W3.heap.size W3 W → W.cell? ⟨0, K * 3, none⟩ = some (.string z0) ∧ W.cell? ⟨W2.heap.size, 4, none⟩ = some (.int .i64 sy) ∧ Below W3.heap.size W3 W) := fun W hW => ⟨hq0.out W (o3.out.trans (hW.mono o3.out.size)), (hx.out W hW).2.2.2.2.1, hW⟩
        have d0 : ¬ z0.size + T.size > 9223372036854775807 := by have := hTz.out.1; have := hz0'.out; omega
        have hSup : Hid (∀ W, Below W3.heap.size W3 W → SupTab W) := fun W hW => hTb.out.1.below (o3.out.trans (hW.mono o3.out.size))
        have hSyn : Hid (∀ W, Below W3.heap.size W3 W → SynTab W) := fun W hW => hTb.out.2.1.below (o3.out.trans (hW.mono o3.out.size))
        have hNum : Hid (∀ W, Below W3.heap.size W3 W → NumT3 W) := fun W hW => hTb.out.2.2.1.below (o3.out.trans (hW.mono o3.out.size))
        clear x0 x2 q2 q3 hW3
        generalize W3.drewN nq = W4 at *
        go_wp2_with fail
        go_loopw [17] (fun jv wr2 => ∃ j : Nat, j ≤ 3 ∧ jv = .int .i64 (j : Int) ∧ Hid (Below W3.heap.size W3 wr2)) (fun jv _ => 3 - (intOf jv).toNat)
        case atStart => exact ⟨0, by omega, rfl, oq.out⟩
        case round =>
          clear oq
          obtain ⟨j, hj, rfl, hBj⟩ := hrel
          by_cases hj3 : j < 3
          · have j1 : (j : Int) < 3 := by omega
            have j0 : (0 : Int) ≤ (j : Int) := Int.natCast_nonneg _
            have oj := o3.out.trans (hBj.out.mono o3.out.size)
            have g1 := hcel.out _ oj j hj3
            have h4 := hTj.out j hj3 _ oj
            have hzz := hzj.out j hj3
            have h5 := fun W => hCj.out j hj3 F hF'.out W
            have h5' : Hid (∀ W, _) := h5
            have cA : Hid (∀ W, _) := hAj.out j hj3
            have cB : Hid (∀ W, _) := hBj'.out j hj3
            have cY : Hid (∀ W, _) := hYj.out j hj3
            have cF : Hid (∀ W, _) := hFj.out j hj3
            generalize S (trn u (kn K j)) = t at *
            generalize S (kn K j) = zj at *
            have d1 : ¬ t.size + B.size > 9223372036854775807 := by have := hTz.out.2; omega
            clear h5 oj hzz
            go_wp2_with fail
            refine h4.mono ?_
            rintro e V1 ⟨rfl, hb1⟩
            have v1 : Hid (Below W3.heap.size W3 V1) := hBj.out.trans (hb1.mono hBj.out.size)
            have h6 := h5'.out V1
            clear h4 hb1 h5' g1 hBj
            go_wp2_with fail
            refine h6.mono ?_
            rintro e V2 ⟨rfl, hb2⟩
            have v2 : Below W3.heap.size W3 V2 := v1.out.trans (hb2.mono v1.out.size)
            clear h6 hb2 v1
            go_wp2_with fail
            refine (numS_any 0 V2).mono ?_
            rintro e V3 ⟨rfl, hV⟩
            subst hV
            have s2 := hSS.out _ v2
            go_wp2_with fail
            go_region_held3 (fun w' => w'.cell? ⟨0, K * 3, none⟩ = some (.string z0) ∧ w'.cell? ⟨W2.heap.size, 4, none⟩ = some (.int .i64 sy) ∧ Below W3.heap.size W3 w')
              (first
                | exact hSS.out _ HB3
                | exact hSS.out _ HB2
                | exact hSS.out _ HB1
                | exact hSS.out _ v2.drew)
              (first
                | (go_at_call 9; refine (cB.out _ (hSup.out _ HB1)).mono ?_; rintro e w4 ⟨rfl, hb4⟩; have HB2 : Below W3.heap.size W3 w4 := HB1.trans (hb4.mono HB1.size); clear hb4)
                | (go_at_call 9; refine (cA.out _ (hSup.out _ v2.drew)).mono ?_; rintro e w3 ⟨rfl, hb3⟩; have HB1 : Below W3.heap.size W3 w3 := v2.drew.trans (hb3.mono v2.drew.size); clear hb3)
                | (go_at_call 10; refine (cY.out _ (hSyn.out _ HB2)).mono ?_; rintro e w5 ⟨rfl, hb5⟩; have HB3 : Below W3.heap.size W3 w5 := HB2.trans (hb5.mono HB2.size); clear hb5))
            have v5 : Hid (Below W3.heap.size W3 w5) := HB3
            have h7 := cF.out w5 (hNum.out _ HB3)
            clear v2 s2 HB1 HB2 HB3 cA cB cY cF
            go_wp2_with fail
            refine h7.mono ?_
            rintro e V6 ⟨⟨b1, b2, b3, rfl, hbl⟩, hb6⟩
            have v6 : Hid (Below W3.heap.size W3 V6) := v5.out.trans (hb6.mono v5.out.size)
            have hbl' : Hid (AlIs V6 al (.slice b1 b2 b3)) := hbl
            clear h7 hb6 v5 hbl
            obtain ⟨V7, hV7⟩ : ∃ V7, V6.alloc (.cells #[.string z0, .slice b1 b2 b3, .string z2, .string sp, .int .i64 sy, .int .i64 ug] 35) = V7 := ⟨_, rfl⟩
            have hB7 : Below V6.heap.size V6 V7 := by rw [← hV7]; exact (Below.refl _ _).alloc (Nat.le_refl _) _
            have hrw : V7.heap[V6.heap.size]? = some (.cells #[.string z0, .slice b1 b2 b3, .string z2, .string sp, .int .i64 sy, .int .i64 ug] 35 (0, 0)) := by rw [← hV7]; exact heap_alloc_last V6 _
            have v7 : Hid (Below W3.heap.size W3 V7) := v6.out.trans (hB7.mono v6.out.size)
            have y0 := (row_cell hrw (j := 0) (by simp)).1
            have y1 := (row_cell hrw (j := 1) (by simp)).1
            have y2 := (row_cell hrw (j := 2) (by simp)).1
            have y3 := (row_cell hrw (j := 3) (by simp)).1
            have y4 := (row_cell hrw (j := 4) (by simp)).1
            have y5 := (row_cell hrw (j := 5) (by simp)).1
            simp only [List.getElem_toArray, List.getElem_cons_zero, List.getElem_cons_succ] at y0 y1 y2 y3 y4 y5
            obtain ⟨x0, x1, x2, x3, x4, x5⟩ := hx.out V7 v7.out
            have h8 := sameRow_any z0 z2 sp sy ug b1 a1 b2 b3 a2 a3 V7 ((hbl'.out.below hB7).same (hal3.out.below v7.out))
            clear hB7 hrw hbl' v6
            go_wp2_with fail
            refine h8.mono ?_
            rintro e V8 ⟨rfl, hb8⟩
            have v8 : Hid (Below W3.heap.size W3 V8) := v7.out.trans (hb8.mono v7.out.size)
            clear h8 hb8 v7 y0 y1 y2 y3 y4 y5 x0 x1 x2 x3 x4 x5 hV7
            go_wp2_with fail
            go_roundw
            case rel => exact ⟨j + 1, hj3, by simp, v8.out⟩
            case measure => simp [intOf]; omega
          · have j1 : ¬ (j : Int) < 3 := by omega
            go_wp2_with fail
            go_ret
            exact ⟨rfl, o3.out.trans (hBj.out.mono o3.out.size)⟩
      · go_wp2_with fail
        refine hC0.mono ?_
        rintro e W1 ⟨⟨F, rfl, hF⟩, hb1⟩
        have hBw : Below w.heap.size w W1 := hB.out.trans (hb1.mono hB.out.size)
        have hF' : Hid (Can0 u K os F) := hF
        have e0 := (hpre.out F hF).1
        have e1 : ¬ (F.size : Int) < (z0.size : Int) := by omega
        have e2 : ((F.extract 0 z0.size).toList == z0.toList) = true := by rw [(hpre.out F hF).2]; simp
        have e3 : (0 : Int) ≤ (z0.size : Int) := by omega
        have e4 : (z0.size : Int) ≤ (F.size : Int) := by omega
        have e7 : ¬ F.size < z0.size := by omega
        have e5 : decide ((F.size : Int) < (z0.size : Int)) = false := decide_eq_false e1
        have r1 : ∀ W : World, (binOp .lss 3 (.int .i64 (F.size : Int)) (.int .i64 (z0.size : Int))).run Tryd.prog W = .ok (.bool false) W := fun W => by
          have h : (binOp .lss 3 (.int .i64 (F.size : Int)) (.int .i64 (z0.size : Int))).run Tryd.prog W = .ok (.bool (decide ((F.size : Int) < (z0.size : Int)))) W := rfl
          rw [h, e5]
        clear hC0 hb1 hF q0 d0 hB
        have q0 := hq0.out W1 hBw
        go_wp2_with fail
        go_region_held3 (fun w' => w'.cell? ⟨0, K * 3, none⟩ = some (.string z0) ∧ Below w.heap.size w w')
          (first
            | exact ⟨hq0.out _ hBw.drew, hBw.drew⟩
            | exact ⟨hq0.out _ HB1, HB1⟩)
          (first
            | (go_at_call 7; refine (numS_any 0 _).mono ?_; rintro e w1 ⟨rfl, hw1⟩; have HB1 : Below w.heap.size w w1 := (by rw [hw1]; exact hBw.drew); clear hw1))
        have o1 : Hid (Below w.heap.size w w1) := HB1
        have h2 := hF0.out w1 (hTb.out.2.2.1.below HB1)
        have q1 := hq0.out w1 HB1
        clear q0 hBw HB1 e0 e1 e2 e3 e4 e5 e7 r1
        go_wp2_with fail
        refine h2.mono ?_
        rintro e W2 ⟨⟨a1, a2, a3, rfl, hal⟩, hb2⟩
        have o2 : Hid (Below w.heap.size w W2) := o1.out.trans (hb2.mono o1.out.size)
        have hal' : Hid (AlIs W2 al (.slice a1 a2 a3)) := hal
        clear h2 q1 hb2 hal o1
        obtain ⟨W3, hW3⟩ : ∃ W3, W2.alloc (.cells #[.string z0, .slice a1 a2 a3, .string z2, .string sp, .int .i64 sy, .int .i64 ug] 35) = W3 := ⟨_, rfl⟩
        have hB3 : Below W2.heap.size W2 W3 := by rw [← hW3]; exact (Below.refl _ _).alloc (Nat.le_refl _) _
        have hrw : W3.heap[W2.heap.size]? = some (.cells #[.string z0, .slice a1 a2 a3, .string z2, .string sp, .int .i64 sy, .int .i64 ug] 35 (0, 0)) := by rw [← hW3]; exact heap_alloc_last W2 _
        have o3 : Hid (Below w.heap.size w W3) := o2.out.trans (hB3.mono o2.out.size)
        have hal3 : Hid (AlIs W3 al (.slice a1 a2 a3)) := hal'.out.below hB3
        have x0 := (row_cell hrw (j := 0) (by simp)).1
        have x1 := (row_cell hrw (j := 1) (by simp)).1
        have x2 := (row_cell hrw (j := 2) (by simp)).1
        have x3 := (row_cell hrw (j := 3) (by simp)).1
        have x4 := (row_cell hrw (j := 4) (by simp)).1
        have x5 := (row_cell hrw (j := 5) (by simp)).1
        simp only [List.getElem_toArray, List.getElem_cons_zero, List.getElem_cons_succ] at x0 x1 x2 x3 x4 x5
        have hx : Hid (∀ W, Below W3.heap.size W3 W → W.cell? ⟨W2.heap.size, 0, none⟩ = some (.string z0) ∧ W.cell? ⟨W2.heap.size, 1, none⟩ = some (.slice a1 a2 a3) ∧ W.cell? ⟨W2.heap.size, 2, none⟩ = some (.string z2) ∧ W.cell? ⟨W2.heap.size, 3, none⟩ = some (.string sp) ∧ W.cell? ⟨W2.heap.size, 4, none⟩ = some (.int .i64 sy) ∧ W.cell? ⟨W2.heap.size, 5, none⟩ = some (.int .i64 ug)) := fun W hW => by
          refine ⟨?_, ?_, ?_, ?_, ?_, ?_⟩
          · rw [hW.cell (World.block_lt_of_cell? _ _ x0)]; exact x0
          · rw [hW.cell (World.block_lt_of_cell? _ _ x1)]; exact x1
          · rw [hW.cell (World.block_lt_of_cell? _ _ x2)]; exact x2
          · rw [hW.cell (World.block_lt_of_cell? _ _ x3)]; exact x3
          · rw [hW.cell (World.block_lt_of_cell? _ _ x4)]; exact x4
          · rw [hW.cell (World.block_lt_of_cell? _ _ x5)]; exact x5
        have q2 := hq0.out W3 o3.out
        have q3 := hz2.out W3 o3.out
        clear hB3 hrw hal' o2 x1 x3 x4 x5
        go_wp2_with fail
        go_quiet (fail)
        have oq : Hid (Below W3.heap.size W3 (W3.drewN nq)) := below_drewN (Below.refl _ _) _
        have hSS : Hid (∀ W, Below W3.heap.size W3 W → W.cell? ⟨0, K * 3, none⟩ = some (.string z0) ∧ W.cell? ⟨W2.heap.size, 4, none⟩ = some (.int .i64 sy) ∧ Below W3.heap.size W3 W) := fun W hW => ⟨hq0.out W (o3.out.trans (hW.mono o3.out.size)), (hx.out W hW).2.2.2.2.1, hW⟩
        have d0 : ¬ z0.size + T.size > 9223372036854775807 := by have := hTz.out.1; have := hz0'.out; omega
        have hSup : Hid (∀ W, Below W3.heap.size W3 W → SupTab W) := fun W hW => hTb.out.1.below (o3.out.trans (hW.mono o3.out.size))
        have hSyn : Hid (∀ W, Below W3.heap.size W3 W → SynTab W) := fun W hW => hTb.out.2.1.below (o3.out.trans (hW.mono o3.out.size))
        have hNum : Hid (∀ W, Below W3.heap.size W3 W → NumT3 W) := fun W hW => hTb.out.2.2.1.below (o3.out.trans (hW.mono o3.out.size))
        clear x0 x2 q2 q3 hW3
        generalize W3.drewN nq = W4 at *
        go_wp2_with fail
        go_loopw [17] (fun jv wr2 => ∃ j : Nat, j ≤ 3 ∧ jv = .int .i64 (j : Int) ∧ Hid (Below W3.heap.size W3 wr2)) (fun jv _ => 3 - (intOf jv).toNat)
        case atStart => exact ⟨0, by omega, rfl, oq.out⟩
        case round =>
          clear oq
          obtain ⟨j, hj, rfl, hBj⟩ := hrel
          by_cases hj3 : j < 3
          · have j1 : (j : Int) < 3 := by omega
            have j0 : (0 : Int) ≤ (j : Int) := Int.natCast_nonneg _
            have oj := o3.out.trans (hBj.out.mono o3.out.size)
            have g1 := hcel.out _ oj j hj3
            have h4 := hTj.out j hj3 _ oj
            have hzz := hzj.out j hj3
            have h5 := fun W => hCj.out j hj3 F hF'.out W
            have h5' : Hid (∀ W, _) := h5
            have cA : Hid (∀ W, _) := hAj.out j hj3
            have cB : Hid (∀ W, _) := hBj'.out j hj3
            have cY : Hid (∀ W, _) := hYj.out j hj3
            have cF : Hid (∀ W, _) := hFj.out j hj3
            generalize S (trn u (kn K j)) = t at *
            generalize S (kn K j) = zj at *
            have d1 : ¬ t.size + B.size > 9223372036854775807 := by have := hTz.out.2; omega
            clear h5 oj hzz
            go_wp2_with fail
            refine h4.mono ?_
            rintro e V1 ⟨rfl, hb1⟩
            have v1 : Hid (Below W3.heap.size W3 V1) := hBj.out.trans (hb1.mono hBj.out.size)
            have h6 := h5'.out V1
            clear h4 hb1 h5' g1 hBj
            go_wp2_with fail
            refine h6.mono ?_
            rintro e V2 ⟨rfl, hb2⟩
            have v2 : Below W3.heap.size W3 V2 := v1.out.trans (hb2.mono v1.out.size)
            clear h6 hb2 v1
            go_wp2_with fail
            refine (numS_any 0 V2).mono ?_
            rintro e V3 ⟨rfl, hV⟩
            subst hV
            have s2 := hSS.out _ v2
            go_wp2_with fail
            go_region_held3 (fun w' => w'.cell? ⟨0, K * 3, none⟩ = some (.string z0) ∧ w'.cell? ⟨W2.heap.size, 4, none⟩ = some (.int .i64 sy) ∧ Below W3.heap.size W3 w')
              (first
                | exact hSS.out _ HB3
                | exact hSS.out _ HB2
                | exact hSS.out _ HB1
                | exact hSS.out _ v2.drew)
              (first
                | (go_at_call 9; refine (cB.out _ (hSup.out _ HB1)).mono ?_; rintro e w4 ⟨rfl, hb4⟩; have HB2 : Below W3.heap.size W3 w4 := HB1.trans (hb4.mono HB1.size); clear hb4)
                | (go_at_call 9; refine (cA.out _ (hSup.out _ v2.drew)).mono ?_; rintro e w3 ⟨rfl, hb3⟩; have HB1 : Below W3.heap.size W3 w3 := v2.drew.trans (hb3.mono v2.drew.size); clear hb3)
                | (go_at_call 10; refine (cY.out _ (hSyn.out _ HB2)).mono ?_; rintro e w5 ⟨rfl, hb5⟩; have HB3 : Below W3.heap.size W3 w5 := HB2.trans (hb5.mono HB2.size); clear hb5))
            have v5 : Hid (Below W3.heap.size W3 w5) := HB3
            have h7 := cF.out w5 (hNum.out _ HB3)
            clear v2 s2 HB1 HB2 HB3 cA cB cY cF
            go_wp2_with fail
            refine h7.mono ?_
            rintro e V6 ⟨⟨b1, b2, b3, rfl, hbl⟩, hb6⟩
            have v6 : Hid (Below W3.heap.size W3 V6) := v5.out.trans (hb6.mono v5.out.size)
            have hbl' : Hid (AlIs V6 al (.slice b1 b2 b3)) := hbl
            clear h7 hb6 v5 hbl
            obtain ⟨V7, hV7⟩ : ∃ V7, V6.alloc (.cells #[.string z0, .slice b1 b2 b3, .string z2, .string sp, .int .i64 sy, .int .i64 ug] 35) = V7 := ⟨_, rfl⟩
            have hB7 : Below V6.heap.size V6 V7 := by rw [← hV7]; exact (Below.refl _ _).alloc (Nat.le_refl _) _
            have hrw : V7.heap[V6.heap.size]? = some (.cells #[.string z0, .slice b1 b2 b3, .string z2, .string sp, .int .i64 sy, .int .i64 ug] 35 (0, 0)) := by rw [← hV7]; exact heap_alloc_last V6 _
            have v7 : Hid (Below W3.heap.size W3 V7) := v6.out.trans (hB7.mono v6.out.size)
            have y0 := (row_cell hrw (j := 0) (by simp)).1
            have y1 := (row_cell hrw (j := 1) (by simp)).1
            have y2 := (row_cell hrw (j := 2) (by simp)).1
            have y3 := (row_cell hrw (j := 3) (by simp)).1
            have y4 := (row_cell hrw (j := 4) (by simp)).1
            have y5 := (row_cell hrw (j := 5) (by simp)).1
            simp only [List.getElem_toArray, List.getElem_cons_zero, List.getElem_cons_succ] at y0 y1 y2 y3 y4 y5
            obtain ⟨x0, x1, x2, x3, x4, x5⟩ := hx.out V7 v7.out
            have h8 := sameRow_any z0 z2 sp sy ug b1 a1 b2 b3 a2 a3 V7 ((hbl'.out.below hB7).same (hal3.out.below v7.out))
            clear hB7 hrw hbl' v6
            go_wp2_with fail
            refine h8.mono ?_
            rintro e V8 ⟨rfl, hb8⟩
            have v8 : Hid (Below W3.heap.size W3 V8) := v7.out.trans (hb8.mono v7.out.size)
            clear h8 hb8 v7 y0 y1 y2 y3 y4 y5 x0 x1 x2 x3 x4 x5 hV7
            go_wp2_with fail
            go_roundw
            case rel => exact ⟨j + 1, hj3, by simp, v8.out⟩
            case measure => simp [intOf]; omega
          · have j1 : ¬ (j : Int) < 3 := by omega
            go_wp2_with fail
            go_ret
            exact ⟨rfl, o3.out.trans (hBj.out.mono o3.out.size)⟩
end Go.Proofs.YteiikipldejeeaaDoor
