import Derived.Test.YtkknenmpdimdbaaGreatDoorFW18
namespace Go.Proofs.YtkknenmpdimdbaaGreatDoor
namespace Ke
open Go.RowKit
open TextMath (fold lo normal check)
open Du (PRow DRow PX sd sd_len drow_at pV pV_len prow_at)
set_option linter.unusedVariables false
set_option linter.unusedSimpArgs false
set_option maxRecDepth 100000
theorem own_formE {W : World} {B : Nat} {v : Value} {l : List UInt8} (h : Own W B v l) : ∃ a n c, v = .slice a n c := by
 obtain ⟨a, c, e⟩ := own_form h
 exact ⟨a, _, c, e⟩
theorem append_1 (w : World) (B : Nat) (v : Value) (l : List UInt8) (c : UInt8) (hown : Own w B v l) (hB : B ≤ w.heap.size) (hl : l.length + 1 ≤ 1099511627776) :
  ∃ g cap w', (Builtin.append_ #[87, 87] 87 #[v, .slice (some ⟨w.heap.size, 0, none⟩) 1 1]).run Tryz.prog (w.alloc (.cells #[.int .u8 (c.toNat : Int)] 5)) = .ok (.slice (some ⟨g, 0, none⟩) (l.length + 1) cap) w' ∧ Own w' B (.slice (some ⟨g, 0, none⟩) (l.length + 1) cap) (l ++ [c]) ∧ Below B w w' := append_bytes w B v l [c] hown hB hl (by simp)
def RpF (w : World) (D : List (List PR)) (e : Ending) (w' : World) : Prop :=
 Below w.heap.size w w' ∧ ((Az D ∧ (dtx D).length ≤ 4096 ∧ e = .returned (.tuple #[.string (S (dtx D)), .int .i64 0, .int .i64 0])) ∨ (Az D ∧ 4096 < (dtx D).length ∧ e = .returned (.tuple #[.string ⟨#[]⟩, .int .i64 50, .int .i64 (D.length : Int)])) ∨ (∃ k, ∃ h : k < D.length, Fs D k ∧ e = .returned (.tuple #[.string ⟨#[]⟩, .int .i64 (cer D[k] (k : Int) : Int), .int .i64 (k : Int)])))
def Rw (w : World) (b : Value) (X : List UInt8) (W : World) : Prop := Own W w.heap.size b X ∧ Below w.heap.size w W
theorem Rw.byte {w W : World} {b : Value} {X : List UInt8} (h : Rw w b X W) (c : UInt8) (hl : X.length + 1 ≤ 1099511627776) :
  ∃ g cap w', (Builtin.append_ #[87, 87] 87 #[b, .slice (some ⟨W.heap.size, 0, none⟩) 1 1]).run Tryz.prog (W.alloc (.cells #[.int .u8 (c.toNat : Int)] 5)) = .ok (.slice (some ⟨g, 0, none⟩) (X.length + 1) cap) w' ∧ Hid (Rw w (.slice (some ⟨g, 0, none⟩) (X.length + 1) cap) (X ++ [c]) w') := by
 obtain ⟨g, cap, w', h1, h2, h3⟩ := append_1 W w.heap.size b X c h.1 h.2.size hl
 exact ⟨g, cap, w', h1, h2, h.2.trans h3⟩
theorem Rw.below {w W W' : World} {b : Value} {X : List UInt8} (h : Rw w b X W) (hb : Below W.heap.size W W') : Rw w b X W' := by
 refine ⟨?_, h.2.trans (hb.mono h.2.size)⟩
 exact Du.owns_same h.1 (fun g hg => hb.block g (World.ownsRow.lt h.1 g hg).2)
set_option maxHeartbeats 8000000 in
theorem rprint_any (sa : Option Addr) (sc n : Nat) (L : List PX) (w : World) (hG : RowTab w) (hn : L.length = n) (hr : DRow w sa L) (hz : ∀ r ∈ L, ∀ p ∈ r.2.2, p.1.length + p.2.length ≤ 4194300) (hzl : ∀ r ∈ L, r.2.2.length ≤ 1073741824) (hnb : n ≤ 1073741824) (hD : dW (sd L) ≤ 900000000000) :
  Calls Tryz.prog 21 #[.slice sa n sc] w fun e w' => RpF w (sd L) e w' := by
 have nb : (n : Int) ≤ 1073741824 := by omega
 have hn' : Hid (L.length = n) := hn
 have hr' : Hid (DRow w sa L) := hr
 have hz' : Hid ((∀ r ∈ L, ∀ p ∈ r.2.2, p.1.length + p.2.length ≤ 4194300) ∧ ∀ r ∈ L, r.2.2.length ≤ 1073741824) := ⟨hz, hzl⟩
 have hD' : Hid (dW (sd L) ≤ 900000000000) := hD
 have hN : Hid (Calls Tryz.prog 44 #[.slice sa n sc] w fun e w' => NmF w (sd L) e w') := name_any sa sc n L w hG hn hr hz hzl hnb
 clear hG hn hr hz hzl hnb hD
 go_enter Tryz.func21, Tryz.ntmps21
 go_wp2_with fail
 refine hN.out.mono ?_
 rintro e W1 ⟨hb1, ⟨hA, rfl⟩ | ⟨k, hk, hF, rfl⟩⟩
 ·have hA' : Hid (Az (sd L)) := hA
  have hb1' : Hid (Below w.heap.size w W1) := hb1
  clear hN hA hb1
  go_wp2_with fail
  go_loopw [7, 8] (fun bq iv wr => ∃ (k : Nat) (ba : Option Addr) (bn bc : Nat), k ≤ n ∧ iv = .int .i64 (k : Int) ∧ bq = .slice ba bn bc ∧ Hid (Rw w (.slice ba bn bc) (dtx ((sd L).take k)) wr)) (fun _ iv _ => n - (intOf iv).toNat)
  case atStart => exact ⟨0, none, 0, 0, Nat.zero_le _, rfl, rfl, by rw [List.take_zero]; exact ⟨rfl, Or.inl ⟨rfl, rfl⟩⟩, hb1'.out⟩
  case round =>
   obtain ⟨k, ba, bn, bc, hk, rfl, rfl, hR⟩ := hrel
   have k0 : (0 : Int) ≤ (k : Int) := Int.natCast_nonneg _
   by_cases hlt : k < n
   ·have k1 : (k : Int) < (n : Int) := Int.ofNat_lt.2 hlt
    have hkL : k < L.length := by rw [hn'.out]; exact hlt
    obtain ⟨b, off, rfl, c1⟩ := drow_at (hr'.out.below hR.out.2) k hkL
    have hc1 : Hid (∀ W, Below w.heap.size w W → W.cell? ⟨b, off + k, none⟩ = some (.slice L[k].1 L[k].2.2.length L[k].2.1)) := fun W hW => by
     obtain ⟨b', o', e, h⟩ := drow_at (hr'.out.below hW) k hkL
     injection e with e
     injection e with e1 e2
     subst e1 e2
     exact h
    have hpr : Hid (∀ W, Below w.heap.size w W → PRow W L[k].1 L[k].2.2) := fun W hW => ((hr'.out.below hW).2 _ (List.getElem_mem hkL)).1
    have hsn : Hid (dtx ((sd L).take (k + 1)) = dtx ((sd L).take k) ++ (if k = 0 then ptx L[k].2.2 else 44 :: ptx L[k].2.2)) := by
     unfold Hid
     rw [List.take_succ_eq_append_getElem (by rw [sd_len]; exact hkL), dtx_snoc, sdAt L k hkL]
     congr 1
     by_cases h0 : k = 0
     ·subst h0; simp
     ·rw [if_neg h0, if_neg (fun e => h0 (by have := congrArg List.length e; rw [List.length_take, List.length_nil, sd_len] at this; omega))]
    have hlen : Hid ((dtx ((sd L).take k)).length + 1 + (L[k].2.2.map ptW).sum ≤ 900000000000) := by
     have h1 := dtx_len ((sd L).take k)
     have h2 := dW_at (sd L) k (by rw [sd_len]; exact hkL)
     rw [sdAt L k hkL] at h2
     have h3 : rW L[k].2.2 = (L[k].2.2.map ptW).sum + 1 := rfl
     have := hD'.out
     unfold Hid
     omega
    have hml : Hid (L[k].2.2.length ≤ 1073741824) := hz'.out.2 _ (List.getElem_mem hkL)
    have hlt' : Hid (k < n) := hlt
    generalize L[k] = r at *
    obtain ⟨pa, pc, ps⟩ := r
    dsimp only at c1 hc1 hpr hsn hlen hml
    obtain ⟨m, hm⟩ : ∃ m, ps.length = m := ⟨_, rfl⟩
    have hm' : Hid (ps.length = m) := hm
    rw [hm] at c1 hc1 hml
    have mb : (m : Int) ≤ 1073741824 := by have := hml.out; omega
    generalize hX0 : dtx ((sd L).take k) = X0 at *
    clear hm hlt hk hkL hml hX0
    by_cases h0 : k = 0
    ·have kp : ¬ (0 : Int) < (k : Int) := by omega
     rw [if_pos h0] at hsn
     have hX : Hid (Rw w (.slice ba bn bc) X0 wr) := hR.out
     have hfinX : Hid (∀ W v, Rw w v (X0 ++ ptx ps) W → Rw w v (dtx ((sd L).take (k + 1))) W) := fun W v h => by rw [hsn.out]; exact h
     have hlX : Hid (X0.length + (ps.map ptW).sum ≤ 900000000000) := by have := hlen.out; unfold Hid; omega
     clear hR hsn h0 hlen
     go_wp2_with fail
     go_loopw [7, 9] (fun bq jv wr => ∃ (j : Nat) (ya : Option Addr) (yn yc : Nat), j ≤ m ∧ jv = .int .i64 (j : Int) ∧ bq = .slice ya yn yc ∧ Hid (Rw w (.slice ya yn yc) (X0 ++ ptx (ps.take j)) wr)) (fun _ jv _ => m - (intOf jv).toNat)
     case atStart => exact ⟨0, _, _, _, Nat.zero_le _, rfl, rfl, by rw [List.take_zero]; unfold Hid; simpa [ptx] using hX.out⟩
     case round =>
      obtain ⟨j, ya, yn, yc, hj, rfl, rfl, hQ⟩ := hrel
      have j0 : (0 : Int) ≤ (j : Int) := Int.natCast_nonneg _
      have c2 := hc1.out _ hQ.out.2
      by_cases hjl : j < m
      ·have j1 : (j : Int) < (m : Int) := Int.ofNat_lt.2 hjl
       have hjP : j < ps.length := by rw [hm'.out]; exact hjl
       obtain ⟨pb, po, rfl, c3, c4⟩ := prow_at (hpr.out _ hQ.out.2) j hjP
       have hpc : Hid (∀ W, Below w.heap.size w W → W.cell? ⟨pb, po + j * 2, none⟩ = some (.string (S ps[j].1)) ∧ W.cell? ⟨pb, po + j * 2 + 1, none⟩ = some (.string (S ps[j].2))) := fun W hW => by
        obtain ⟨b', o', e, h⟩ := prow_at (hpr.out W hW) j hjP
        injection e with e
        injection e with e1 e2
        subst e1 e2
        exact h
       have hps : Hid (ptx (ps.take (j + 1)) = ptx (ps.take j) ++ (if j = 0 then pt1 ps[j] else 43 :: pt1 ps[j])) := by
        unfold Hid
        rw [List.take_succ_eq_append_getElem hjP, ptx_snoc]
        congr 1
        by_cases h0 : j = 0
        ·subst h0; simp
        ·rw [if_neg h0, if_neg (fun e => h0 (by have := congrArg List.length e; rw [List.length_take, List.length_nil] at this; omega))]
       have hlj : Hid ((X0 ++ ptx (ps.take j)).length + ptW ps[j] ≤ 900000000000) := by
        have h1 := ptx_len (ps.take j)
        have h2 := sum_at ps j hjP
        have := hlX.out
        unfold Hid
        rw [List.length_append]
        omega
       generalize ps[j] = p at *
       obtain ⟨t, v⟩ := p
       dsimp only at c3 c4 hpc
       have hw2 : Hid ((X0 ++ ptx (ps.take j)).length + (t.length + 3 * v.length + 2) ≤ 900000000000) := hlj.out
       have hE : Hid (∀ W, Calls Tryz.prog 45 #[.string (S v)] W fun e w' => e = .returned (.string (S (escV v))) ∧ Below W.heap.size W w') := fun W => by
        have h := escape_any (S v) W (by rw [S_size]; have := hw2.out; omega)
        rw [S_l] at h
        exact h
       have hYZ : Hid (∀ W v', Rw w v' (X0 ++ ptx (ps.take j) ++ (if j = 0 then pt1 (t, v) else 43 :: pt1 (t, v))) W → Rw w v' (X0 ++ ptx (ps.take (j + 1))) W) := fun W v' h => by rw [hps.out, ← List.append_assoc]; exact h
       generalize hY0 : X0 ++ ptx (ps.take j) = Y0 at *
       have hev := escV_len v
       have hjl' : Hid (j < m) := hjl
       obtain ⟨st, hst⟩ : ∃ st, S t = st := ⟨_, rfl⟩
       obtain ⟨sv', hsv⟩ : ∃ sv', S v = sv' := ⟨_, rfl⟩
       obtain ⟨se, hse⟩ : ∃ se, S (escV v) = se := ⟨_, rfl⟩
       have hstl : Hid (st.data.toList = t ∧ st.size = t.length) := by rw [← hst]; exact ⟨S_l t, S_size t⟩
       have hsel : Hid (se.data.toList = escV v ∧ se.size ≤ 3 * v.length) := by rw [← hse]; exact ⟨S_l _, by rw [S_size]; exact hev⟩
       rw [hst] at c3 hpc
       rw [hsv] at c4 hE hpc
       rw [hse] at hE
       clear hps hlj hjP hj hst hsv hse hev hjl hY0
       by_cases hj0 : j = 0
       ·have jp : ¬ (0 : Int) < (j : Int) := by omega
        rw [if_pos hj0] at hYZ
        have hZ : Hid (Rw w (.slice ya yn yc) Y0 wr) := hQ.out
        have hYZ' : Hid (∀ W v', Rw w v' (Y0 ++ t ++ [61] ++ escV v) W → Rw w v' (X0 ++ ptx (ps.take (j + 1))) W) := fun W v' h => hYZ.out W v' (by unfold pt1; simpa using h)
        have hlZ : Hid (Y0.length + (t.length + 3 * v.length + 1) ≤ 900000000000) := by have := hw2.out; unfold Hid; omega
        clear hYZ hw2 hj0 hQ
        go_wp2_with fail
        refine (hE.out _).mono ?_
        rintro e W3 ⟨rfl, hb3⟩
        have hZ3 : Hid (Rw w _ Y0 W3) := hZ.out.below hb3
        have d1 := hc1.out _ hZ3.out.2
        obtain ⟨d2, d3⟩ := hpc.out _ hZ3.out.2
        clear hb3 hZ
        go_wp2_with (first
         | (at_builtin; refine push_str _ rfl _ _ rfl w.heap.size _ Y0 st rfl rfl ?_ ?_ ?_ ?_; (exact hZ3.out.1); (exact hZ3.out.2.size); (have := hlZ.out; have := hstl.out.2; omega); intro v4 w4 hO4 hb4; rw [hstl.out.1] at hO4; have hZ4 : Hid (Rw w v4 (Y0 ++ t) w4) := ⟨hO4, hZ3.out.2.trans hb4⟩; clear hO4 hb4; obtain ⟨g5, cap5, w5, e5, hZ5⟩ := hZ4.out.byte 61 (by have := hlZ.out; simp only [List.length_append]; omega); rw [List.length_append] at e5 hZ5; have e5' : (Builtin.append_ #[87, 87] 87 #[v4, .slice (some ⟨w4.heap.size, 0, none⟩) 1 1]).run Tryz.prog (w4.alloc (.cells #[.int .u8 61] 5)) = .ok (.slice (some ⟨g5, 0, none⟩) (Y0.length + t.length + 1) cap5) w5 := e5; clear e5)
         | (at_builtin; refine Lib.wpList_append_run _ rfl _ _ _ _ rfl _ _ rfl rfl _ _ e5' ?_; clear e5')
         | (at_builtin; refine push_str _ rfl _ _ rfl w.heap.size _ (Y0 ++ t ++ [61]) se rfl rfl ?_ ?_ ?_ ?_; (exact hZ5.out.1); (exact hZ5.out.2.size); (have := hlZ.out; have := hsel.out.2; simp only [List.length_append, List.length_cons, List.length_nil]; omega); intro v6 w6 hO6 hb6; rw [hsel.out.1] at hO6; have hZ6 : Hid (Rw w v6 (Y0 ++ t ++ [61] ++ escV v) w6) := ⟨hO6, hZ5.out.2.trans hb6⟩; clear hO6 hb6; obtain ⟨a6, n6, c6', rfl⟩ := own_formE hZ6.out.1))
        go_roundw
        case rel => exact ⟨j + 1, _, _, _, hjl'.out, by go_num, rfl, hYZ'.out _ _ hZ6.out⟩
        case measure => have := hjl'.out; simp [intOf]; omega
       ·have jp : (0 : Int) < (j : Int) := by omega
        rw [if_neg hj0] at hYZ
        obtain ⟨g2, cap2, wq1, e2, hZ⟩ := hQ.out.byte 43 (by have := hw2.out; omega)
        have e2' : (Builtin.append_ #[87, 87] 87 #[.slice ya yn yc, .slice (some ⟨wr.heap.size, 0, none⟩) 1 1]).run Tryz.prog (wr.alloc (.cells #[.int .u8 43] 5)) = .ok (.slice (some ⟨g2, 0, none⟩) (Y0.length + 1) cap2) wq1 := e2
        have hYZ' : Hid (∀ W v', Rw w v' ((Y0 ++ [43]) ++ t ++ [61] ++ escV v) W → Rw w v' (X0 ++ ptx (ps.take (j + 1))) W) := fun W v' h => hYZ.out W v' (by unfold pt1; simpa using h)
        have hlZ : Hid ((Y0 ++ [43]).length + (t.length + 3 * v.length + 1) ≤ 900000000000) := by have := hw2.out; unfold Hid; simp only [List.length_append, List.length_cons, List.length_nil]; omega
        have c5 := hc1.out _ hZ.out.2
        obtain ⟨c6, c7⟩ := hpc.out _ hZ.out.2
        generalize hY1 : Y0 ++ [43] = Y1 at *
        clear hYZ hw2 hj0 hQ e2 hY1
        go_wp2_with (at_builtin; refine Lib.wpList_append_run _ rfl _ _ _ _ rfl _ _ rfl rfl _ _ e2' ?_; clear e2')
        refine (hE.out _).mono ?_
        rintro e W3 ⟨rfl, hb3⟩
        have hZ3 : Hid (Rw w _ Y1 W3) := hZ.out.below hb3
        have d1 := hc1.out _ hZ3.out.2
        obtain ⟨d2, d3⟩ := hpc.out _ hZ3.out.2
        clear hb3 hZ
        go_wp2_with (first
         | (at_builtin; refine push_str _ rfl _ _ rfl w.heap.size _ Y1 st rfl rfl ?_ ?_ ?_ ?_; (exact hZ3.out.1); (exact hZ3.out.2.size); (have := hlZ.out; have := hstl.out.2; omega); intro v4 w4 hO4 hb4; rw [hstl.out.1] at hO4; have hZ4 : Hid (Rw w v4 (Y1 ++ t) w4) := ⟨hO4, hZ3.out.2.trans hb4⟩; clear hO4 hb4; obtain ⟨g5, cap5, w5, e5, hZ5⟩ := hZ4.out.byte 61 (by have := hlZ.out; simp only [List.length_append]; omega); rw [List.length_append] at e5 hZ5; have e5' : (Builtin.append_ #[87, 87] 87 #[v4, .slice (some ⟨w4.heap.size, 0, none⟩) 1 1]).run Tryz.prog (w4.alloc (.cells #[.int .u8 61] 5)) = .ok (.slice (some ⟨g5, 0, none⟩) (Y1.length + t.length + 1) cap5) w5 := e5; clear e5)
         | (at_builtin; refine Lib.wpList_append_run _ rfl _ _ _ _ rfl _ _ rfl rfl _ _ e5' ?_; clear e5')
         | (at_builtin; refine push_str _ rfl _ _ rfl w.heap.size _ (Y1 ++ t ++ [61]) se rfl rfl ?_ ?_ ?_ ?_; (exact hZ5.out.1); (exact hZ5.out.2.size); (have := hlZ.out; have := hsel.out.2; simp only [List.length_append, List.length_cons, List.length_nil]; omega); intro v6 w6 hO6 hb6; rw [hsel.out.1] at hO6; have hZ6 : Hid (Rw w v6 (Y1 ++ t ++ [61] ++ escV v) w6) := ⟨hO6, hZ5.out.2.trans hb6⟩; clear hO6 hb6; obtain ⟨a6, n6, c6', rfl⟩ := own_formE hZ6.out.1))
        go_roundw
        case rel => exact ⟨j + 1, _, _, _, hjl'.out, by go_num, rfl, hYZ'.out _ _ hZ6.out⟩
        case measure => have := hjl'.out; simp [intOf]; omega
      ·have hje : m = j := by omega
       subst hje
       have i2 : ¬ (m : Int) < (m : Int) := by omega
       have hfin : Hid (Rw w (.slice ya yn yc) (dtx ((sd L).take (k + 1))) wr) := by
        have := hQ.out
        rw [List.take_of_length_le (by rw [hm'.out]; exact Nat.le_refl _)] at this
        exact hfinX.out _ _ this
       clear hQ hj hjl hfinX hlX hX
       go_wp2_with fail
       go_roundw
       case rel => exact ⟨k + 1, _, _, _, hlt'.out, by go_num, rfl, hfin⟩
       case measure => have := hlt'.out; simp [intOf]; omega
    ·have kp : (0 : Int) < (k : Int) := by omega
     rw [if_neg h0] at hsn
     obtain ⟨g1, cap1, wr1, e1, hX⟩ := hR.out.byte 44 (by have := hlen.out; omega)
     have e1' : (Builtin.append_ #[87, 87] 87 #[.slice ba bn bc, .slice (some ⟨wr.heap.size, 0, none⟩) 1 1]).run Tryz.prog (wr.alloc (.cells #[.int .u8 44] 5)) = .ok (.slice (some ⟨g1, 0, none⟩) (X0.length + 1) cap1) wr1 := e1
     have hfinX : Hid (∀ W v, Rw w v ((X0 ++ [44]) ++ ptx ps) W → Rw w v (dtx ((sd L).take (k + 1))) W) := fun W v h => by rw [hsn.out]; simpa using h
     have hlX : Hid ((X0 ++ [44]).length + (ps.map ptW).sum ≤ 900000000000) := by have := hlen.out; unfold Hid; simp only [List.length_append, List.length_cons, List.length_nil]; omega
     have c1' := hc1.out wr1 hX.out.2
     generalize hX1 : X0 ++ [44] = X1 at *
     clear hR hsn h0 hlen e1 c1 hX1
     go_wp2_with (at_builtin; refine Lib.wpList_append_run _ rfl _ _ _ _ rfl _ _ rfl rfl _ _ e1' ?_; clear e1')
     go_loopw [7, 9] (fun bq jv wr => ∃ (j : Nat) (ya : Option Addr) (yn yc : Nat), j ≤ m ∧ jv = .int .i64 (j : Int) ∧ bq = .slice ya yn yc ∧ Hid (Rw w (.slice ya yn yc) (X1 ++ ptx (ps.take j)) wr)) (fun _ jv _ => m - (intOf jv).toNat)
     case atStart => exact ⟨0, _, _, _, Nat.zero_le _, rfl, rfl, by rw [List.take_zero]; unfold Hid; simpa [ptx] using hX.out⟩
     case round =>
      obtain ⟨j, ya, yn, yc, hj, rfl, rfl, hQ⟩ := hrel
      have j0 : (0 : Int) ≤ (j : Int) := Int.natCast_nonneg _
      have c2 := hc1.out _ hQ.out.2
      by_cases hjl : j < m
      ·have j1 : (j : Int) < (m : Int) := Int.ofNat_lt.2 hjl
       have hjP : j < ps.length := by rw [hm'.out]; exact hjl
       obtain ⟨pb, po, rfl, c3, c4⟩ := prow_at (hpr.out _ hQ.out.2) j hjP
       have hpc : Hid (∀ W, Below w.heap.size w W → W.cell? ⟨pb, po + j * 2, none⟩ = some (.string (S ps[j].1)) ∧ W.cell? ⟨pb, po + j * 2 + 1, none⟩ = some (.string (S ps[j].2))) := fun W hW => by
        obtain ⟨b', o', e, h⟩ := prow_at (hpr.out W hW) j hjP
        injection e with e
        injection e with e1 e2
        subst e1 e2
        exact h
       have hps : Hid (ptx (ps.take (j + 1)) = ptx (ps.take j) ++ (if j = 0 then pt1 ps[j] else 43 :: pt1 ps[j])) := by
        unfold Hid
        rw [List.take_succ_eq_append_getElem hjP, ptx_snoc]
        congr 1
        by_cases h0 : j = 0
        ·subst h0; simp
        ·rw [if_neg h0, if_neg (fun e => h0 (by have := congrArg List.length e; rw [List.length_take, List.length_nil] at this; omega))]
       have hlj : Hid ((X1 ++ ptx (ps.take j)).length + ptW ps[j] ≤ 900000000000) := by
        have h1 := ptx_len (ps.take j)
        have h2 := sum_at ps j hjP
        have := hlX.out
        unfold Hid
        rw [List.length_append]
        omega
       generalize ps[j] = p at *
       obtain ⟨t, v⟩ := p
       dsimp only at c3 c4 hpc
       have hw2 : Hid ((X1 ++ ptx (ps.take j)).length + (t.length + 3 * v.length + 2) ≤ 900000000000) := hlj.out
       have hE : Hid (∀ W, Calls Tryz.prog 45 #[.string (S v)] W fun e w' => e = .returned (.string (S (escV v))) ∧ Below W.heap.size W w') := fun W => by
        have h := escape_any (S v) W (by rw [S_size]; have := hw2.out; omega)
        rw [S_l] at h
        exact h
       have hYZ : Hid (∀ W v', Rw w v' (X1 ++ ptx (ps.take j) ++ (if j = 0 then pt1 (t, v) else 43 :: pt1 (t, v))) W → Rw w v' (X1 ++ ptx (ps.take (j + 1))) W) := fun W v' h => by rw [hps.out, ← List.append_assoc]; exact h
       generalize hY0 : X1 ++ ptx (ps.take j) = Y0 at *
       have hev := escV_len v
       have hjl' : Hid (j < m) := hjl
       obtain ⟨st, hst⟩ : ∃ st, S t = st := ⟨_, rfl⟩
       obtain ⟨sv', hsv⟩ : ∃ sv', S v = sv' := ⟨_, rfl⟩
       obtain ⟨se, hse⟩ : ∃ se, S (escV v) = se := ⟨_, rfl⟩
       have hstl : Hid (st.data.toList = t ∧ st.size = t.length) := by rw [← hst]; exact ⟨S_l t, S_size t⟩
       have hsel : Hid (se.data.toList = escV v ∧ se.size ≤ 3 * v.length) := by rw [← hse]; exact ⟨S_l _, by rw [S_size]; exact hev⟩
       rw [hst] at c3 hpc
       rw [hsv] at c4 hE hpc
       rw [hse] at hE
       clear hps hlj hjP hj hst hsv hse hev hjl hY0
       by_cases hj0 : j = 0
       ·have jp : ¬ (0 : Int) < (j : Int) := by omega
        rw [if_pos hj0] at hYZ
        have hZ : Hid (Rw w (.slice ya yn yc) Y0 wr) := hQ.out
        have hYZ' : Hid (∀ W v', Rw w v' (Y0 ++ t ++ [61] ++ escV v) W → Rw w v' (X1 ++ ptx (ps.take (j + 1))) W) := fun W v' h => hYZ.out W v' (by unfold pt1; simpa using h)
        have hlZ : Hid (Y0.length + (t.length + 3 * v.length + 1) ≤ 900000000000) := by have := hw2.out; unfold Hid; omega
        clear hYZ hw2 hj0 hQ
        go_wp2_with fail
        refine (hE.out _).mono ?_
        rintro e W3 ⟨rfl, hb3⟩
        have hZ3 : Hid (Rw w _ Y0 W3) := hZ.out.below hb3
        have d1 := hc1.out _ hZ3.out.2
        obtain ⟨d2, d3⟩ := hpc.out _ hZ3.out.2
        clear hb3 hZ
        go_wp2_with (first
         | (at_builtin; refine push_str _ rfl _ _ rfl w.heap.size _ Y0 st rfl rfl ?_ ?_ ?_ ?_; (exact hZ3.out.1); (exact hZ3.out.2.size); (have := hlZ.out; have := hstl.out.2; omega); intro v4 w4 hO4 hb4; rw [hstl.out.1] at hO4; have hZ4 : Hid (Rw w v4 (Y0 ++ t) w4) := ⟨hO4, hZ3.out.2.trans hb4⟩; clear hO4 hb4; obtain ⟨g5, cap5, w5, e5, hZ5⟩ := hZ4.out.byte 61 (by have := hlZ.out; simp only [List.length_append]; omega); rw [List.length_append] at e5 hZ5; have e5' : (Builtin.append_ #[87, 87] 87 #[v4, .slice (some ⟨w4.heap.size, 0, none⟩) 1 1]).run Tryz.prog (w4.alloc (.cells #[.int .u8 61] 5)) = .ok (.slice (some ⟨g5, 0, none⟩) (Y0.length + t.length + 1) cap5) w5 := e5; clear e5)
         | (at_builtin; refine Lib.wpList_append_run _ rfl _ _ _ _ rfl _ _ rfl rfl _ _ e5' ?_; clear e5')
         | (at_builtin; refine push_str _ rfl _ _ rfl w.heap.size _ (Y0 ++ t ++ [61]) se rfl rfl ?_ ?_ ?_ ?_; (exact hZ5.out.1); (exact hZ5.out.2.size); (have := hlZ.out; have := hsel.out.2; simp only [List.length_append, List.length_cons, List.length_nil]; omega); intro v6 w6 hO6 hb6; rw [hsel.out.1] at hO6; have hZ6 : Hid (Rw w v6 (Y0 ++ t ++ [61] ++ escV v) w6) := ⟨hO6, hZ5.out.2.trans hb6⟩; clear hO6 hb6; obtain ⟨a6, n6, c6', rfl⟩ := own_formE hZ6.out.1))
        go_roundw
        case rel => exact ⟨j + 1, _, _, _, hjl'.out, by go_num, rfl, hYZ'.out _ _ hZ6.out⟩
        case measure => have := hjl'.out; simp [intOf]; omega
       ·have jp : (0 : Int) < (j : Int) := by omega
        rw [if_neg hj0] at hYZ
        obtain ⟨g2, cap2, wq1, e2, hZ⟩ := hQ.out.byte 43 (by have := hw2.out; omega)
        have e2' : (Builtin.append_ #[87, 87] 87 #[.slice ya yn yc, .slice (some ⟨wr.heap.size, 0, none⟩) 1 1]).run Tryz.prog (wr.alloc (.cells #[.int .u8 43] 5)) = .ok (.slice (some ⟨g2, 0, none⟩) (Y0.length + 1) cap2) wq1 := e2
        have hYZ' : Hid (∀ W v', Rw w v' ((Y0 ++ [43]) ++ t ++ [61] ++ escV v) W → Rw w v' (X1 ++ ptx (ps.take (j + 1))) W) := fun W v' h => hYZ.out W v' (by unfold pt1; simpa using h)
        have hlZ : Hid ((Y0 ++ [43]).length + (t.length + 3 * v.length + 1) ≤ 900000000000) := by have := hw2.out; unfold Hid; simp only [List.length_append, List.length_cons, List.length_nil]; omega
        have c5 := hc1.out _ hZ.out.2
        obtain ⟨c6, c7⟩ := hpc.out _ hZ.out.2
        generalize hY1 : Y0 ++ [43] = Y1 at *
        clear hYZ hw2 hj0 hQ e2 hY1
        go_wp2_with (at_builtin; refine Lib.wpList_append_run _ rfl _ _ _ _ rfl _ _ rfl rfl _ _ e2' ?_; clear e2')
        refine (hE.out _).mono ?_
        rintro e W3 ⟨rfl, hb3⟩
        have hZ3 : Hid (Rw w _ Y1 W3) := hZ.out.below hb3
        have d1 := hc1.out _ hZ3.out.2
        obtain ⟨d2, d3⟩ := hpc.out _ hZ3.out.2
        clear hb3 hZ
        go_wp2_with (first
         | (at_builtin; refine push_str _ rfl _ _ rfl w.heap.size _ Y1 st rfl rfl ?_ ?_ ?_ ?_; (exact hZ3.out.1); (exact hZ3.out.2.size); (have := hlZ.out; have := hstl.out.2; omega); intro v4 w4 hO4 hb4; rw [hstl.out.1] at hO4; have hZ4 : Hid (Rw w v4 (Y1 ++ t) w4) := ⟨hO4, hZ3.out.2.trans hb4⟩; clear hO4 hb4; obtain ⟨g5, cap5, w5, e5, hZ5⟩ := hZ4.out.byte 61 (by have := hlZ.out; simp only [List.length_append]; omega); rw [List.length_append] at e5 hZ5; have e5' : (Builtin.append_ #[87, 87] 87 #[v4, .slice (some ⟨w4.heap.size, 0, none⟩) 1 1]).run Tryz.prog (w4.alloc (.cells #[.int .u8 61] 5)) = .ok (.slice (some ⟨g5, 0, none⟩) (Y1.length + t.length + 1) cap5) w5 := e5; clear e5)
         | (at_builtin; refine Lib.wpList_append_run _ rfl _ _ _ _ rfl _ _ rfl rfl _ _ e5' ?_; clear e5')
         | (at_builtin; refine push_str _ rfl _ _ rfl w.heap.size _ (Y1 ++ t ++ [61]) se rfl rfl ?_ ?_ ?_ ?_; (exact hZ5.out.1); (exact hZ5.out.2.size); (have := hlZ.out; have := hsel.out.2; simp only [List.length_append, List.length_cons, List.length_nil]; omega); intro v6 w6 hO6 hb6; rw [hsel.out.1] at hO6; have hZ6 : Hid (Rw w v6 (Y1 ++ t ++ [61] ++ escV v) w6) := ⟨hO6, hZ5.out.2.trans hb6⟩; clear hO6 hb6; obtain ⟨a6, n6, c6', rfl⟩ := own_formE hZ6.out.1))
        go_roundw
        case rel => exact ⟨j + 1, _, _, _, hjl'.out, by go_num, rfl, hYZ'.out _ _ hZ6.out⟩
        case measure => have := hjl'.out; simp [intOf]; omega
      ·have hje : m = j := by omega
       subst hje
       have i2 : ¬ (m : Int) < (m : Int) := by omega
       have hfin : Hid (Rw w (.slice ya yn yc) (dtx ((sd L).take (k + 1))) wr) := by
        have := hQ.out
        rw [List.take_of_length_le (by rw [hm'.out]; exact Nat.le_refl _)] at this
        exact hfinX.out _ _ this
       clear hQ hj hjl hfinX hlX hX
       go_wp2_with fail
       go_roundw
       case rel => exact ⟨k + 1, _, _, _, hlt'.out, by go_num, rfl, hfin⟩
       case measure => have := hlt'.out; simp [intOf]; omega
   ·have e : n = k := by omega
    subst e
    have i1 : ¬ (n : Int) < (n : Int) := by omega
    have hR' : Hid (Rw w (.slice ba bn bc) (dtx (sd L)) wr) := by
     have := hR.out
     rw [List.take_of_length_le (by rw [sd_len, hn'.out]; exact Nat.le_refl _)] at this
     exact this
    have hbn := own_bn hR'.out.1
    have hcv := own_conv hR'.out.1
    have hbl : (bn : Int) ≤ 1000000000000 := by
     have h1 := dtx_len (sd L)
     have := hD'.out
     omega
    by_cases h4 : 4096 < bn
    ·have b4 : (4096 : Int) < (bn : Int) := by omega
     have hfin : Hid (RpF w (sd L) (.returned (.tuple #[.string ⟨#[]⟩, .int .i64 50, .int .i64 (n : Int)])) wr) := ⟨hR'.out.2, Or.inr (Or.inl ⟨hA'.out, by omega, by rw [sd_len, hn'.out]⟩)⟩
     clear hbn hcv hR hR' hk hlt h4
     go_wp2_with fail
     go_ret3
     exact hfin.out
    ·have b4 : ¬ (4096 : Int) < (bn : Int) := by omega
     have hfin : Hid (RpF w (sd L) (.returned (.tuple #[.string (S (dtx (sd L))), .int .i64 0, .int .i64 0])) wr) := ⟨hR'.out.2, Or.inl ⟨hA'.out, by omega, rfl⟩⟩
     clear hbn hR hR' hk hlt h4
     go_wp2_with fail
     go_ret3
     exact hfin.out
 ·have hfin : Hid (RpF w (sd L) (.returned (.tuple #[.string ⟨#[]⟩, .int .i64 (cer (sd L)[k] (k : Int) : Int), .int .i64 (k : Int)])) W1) := ⟨hb1, Or.inr (Or.inr ⟨k, hk, hF, rfl⟩)⟩
  have hq' : (((cer (sd L)[k] (k : Int) : Nat) : Int) == 0) = false := by
   obtain ⟨_, _, h2⟩ := hF
   rw [beq_eq_false_iff_ne]; omega
  generalize cer (sd L)[k] (k : Int) = rr at *
  clear hb1 hF hN
  go_wp2_with fail
  go_ret3
  exact hfin.out
end Ke
end Go.Proofs.YtkknenmpdimdbaaGreatDoor
