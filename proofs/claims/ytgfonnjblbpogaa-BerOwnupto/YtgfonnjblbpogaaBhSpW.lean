import Derived.Test.YtgfonnjblbpogaaBhSpB
namespace Go.Proofs.Ytgfonnjblbpogaa
open Go.RowKit
set_option linter.unusedVariables false
theorem outB_le (H : Nat → List UInt8) (B : Nat → ByteArray) : ∀ (n j : Nat), j ≤ n → (outB H B 0 j).length ≤ (outB H B 0 n).length
  | 0, j, h => by rw [Nat.le_zero.1 h]; exact Nat.le_refl _
  | n + 1, j, h => by
    by_cases e : j = n + 1
    · rw [e]; exact Nat.le_refl _
    · have := outB_le H B n j (by omega)
      rw [outB_snoc, List.length_append]
      omega
theorem wr_next (j : Nat) (h : j ≤ 67108864) : wrap64 ((j : Int) + 1) = (j : Int) + 1 := by unfold wrap64; omega
theorem own_nil (W : World) (B : Nat) : Own W B (.slice none 0 0) [] := ⟨rfl, Or.inl ⟨rfl, rfl⟩⟩
/-- What spelt answers. -/
def SplR (e : Ending) (n : Nat) (D C T : Nat → Int) (M : Nat → Bool) (B : Nat → ByteArray) : Prop := ∃ (H : Nat → List UInt8) (σ : List Nat) (sh : Bool), e = .returned (.tuple #[.string (S (outB H B 0 n)), .bool sh]) ∧ SpI n 0 D C T M B σ H
set_option maxRecDepth 100000 in
set_option maxHeartbeats 1000000 in
theorem spelt_any (a : Option Addr) (n c : Nat) (D C T : Nat → Int) (M : Nat → Bool) (B : Nat → ByteArray) (fa : Option Addr) (fn fc : Nat) (F : Nat → Int) (w : World) (hn : IsNodes w a n D C T M B) (hf : FInts w fa fn F) (hG : ∀ i, i < n → Good D C T M B i) (h0 : 0 < n) (hs : bsum B n ≤ 67108864) :
    Calls Try.prog 12 #[.slice a n c, .slice fa fn fc] w fun e w' => SplR e n D C T M B ∧ Below w.heap.size w w' := by
  have hnn : n ≤ 67108864 := by have := bsum_six B n; omega
  have hmk := make_strs n hnn
  have HG : Hid (IsNodes w a n D C T M B ∧ FInts w fa fn F ∧ (∀ i, i < n → Good D C T M B i) ∧ 0 < n ∧ bsum B n ≤ 67108864) := ⟨hn, hf, hG, h0, hs⟩
  have hw1 : wrap64 ((n : Int) - 1) = (n : Int) - 1 := by unfold wrap64; omega
  clear hn hf hG hs h0
  go_enter Try.func12, Try.ntmps12
  go_wp2_with fail
  go_loopw [8, 9] (fun sv iv wr => ∃ (K : Nat) (sh : Bool) (σ : List Nat) (H : Nat → List UInt8), K ≤ n ∧ sv = .bool sh ∧ iv = .int .i64 ((K : Int) - 1) ∧ Hid (SpI n K D C T M B σ H ∧ NumB wr (w.heap.size + 1) σ ∧ TxtB wr w.heap.size n K H ∧ Below w.heap.size w wr)) (fun _ iv _ => (intOf iv + 1).toNat)
  case atStart =>
    refine ⟨n, true, _, _, Nat.le_refl _, rfl, by go_num, ⟨spI_start n HG.out.2.2.2.1 D C T M B, ?_, ?_, ?_⟩⟩
    · have := num_new (w.alloc (.cells (madeCells #[.string ⟨#[]⟩] n) 9))
      simpa using this
    · exact (txt_new w n).of (Below.heap_alloc _ _ _ (by simp))
    · exact ((Below.refl _ _).alloc (Nat.le_refl _) _).alloc (by simp) _
  case round =>
    obtain ⟨K, sh, σ, H, hK, rfl, rfl, HI⟩ := hrel
    clear hw1
    cases K with
    | zero =>
      obtain ⟨wo, hwo⟩ : ∃ wo, wo = wr := ⟨_, rfl⟩
      subst hwo
      have ez : (((0 : Nat) : Int) - 1) = -1 := by omega
      rw [ez]
      have hT : Hid (TxtB wo w.heap.size n 0 H ∧ IsNodes wo a n D C T M B ∧ Below w.heap.size w wo) := ⟨HI.out.2.2.1, HG.out.1.below HI.out.2.2.2, HI.out.2.2.2⟩
      obtain ⟨len, k, rest, r1, r2, r3, r4⟩ := spI_end HG.out.2.2.2.1 HI.out.1
      have hEnd : Hid (outB H B 0 n = hdrL (C 0).toNat (M 0) (T 0).toNat len k ++ rest ∧ Says len k ∧ rest.length = len ∧ 2 + k + len ≤ 67108864) := ⟨r1, r2, r3, Nat.le_trans r4 HG.out.2.2.2.2⟩
      have hTot : Hid (∀ j, j ≤ n → (outB H B 0 j).length ≤ 67108864) := by
        unfold Hid
        intro j hj
        have h1 := outB_le H B n j hj
        have h2 : (outB H B 0 n).length = 2 + k + len := by rw [r1, List.length_append, hdrL_len, r3]
        have := HG.out.2.2.2.2
        omega
      have hSp : Hid (SpI n 0 D C T M B σ H) := HI.out.1
      clear HI r1 r2 r3 r4 hmk hK
      go_wp2_with fail
      go_loopw [13, 14] (fun bv iv wv => ∃ (j : Nat), j ≤ n ∧ iv = .int .i64 (j : Int) ∧ Hid (Own wv wo.heap.size bv (outB H B 0 j) ∧ Below wo.heap.size wo wv)) (fun _ iv _ => n - (intOf iv).toNat)
      case atStart => exact ⟨0, Nat.zero_le _, rfl, own_nil _ _, Below.refl _ _⟩
      case round =>
        obtain ⟨j, hj, rfl, HO⟩ := hrel
        have j0 : (0 : Int) ≤ (j : Int) := Int.natCast_nonneg _
        by_cases hlt : j < n
        · have j1 : (j : Int) < (n : Int) := Int.ofNat_lt.2 hlt
          obtain ⟨b, off, rfl, _, _, _, _, c4⟩ := (hT.out.2.1.below HO.out.2) j hlt
          have ch : wr.cell? ⟨w.heap.size, j, none⟩ = some (.string (S (H j))) := (HO.out.2.cell hT.out.1.lt).trans (hT.out.1.at j (Nat.zero_le _) hlt)
          have wj : wrap64 ((j : Int) + 1) = (j : Int) + 1 := wr_next j (by have := hlt; omega)
          have hb4 : Hid (b < wo.heap.size) := by
            obtain ⟨b', off', q, z, _⟩ := hT.out.2.1 j hlt
            injection q with q; injection q with q1 q2; subst q1
            exact World.block_lt_of_cell? wo _ z
          have hlt' : Hid (j < n) := hlt
          have ho := HO.out.1
          have hsz : wo.heap.size ≤ wr.heap.size := HO.out.2.size
          have hl1 : Hid ((outB H B 0 j).length + (S (H j)).size ≤ 1099511627776) := by
            have := hTot.out (j + 1) hlt
            rw [outB_snoc, List.length_append, List.length_append] at this
            unfold Hid
            rw [S_size]
            omega
          have hl2 : Hid ((outB H B 0 j ++ (S (H j)).data.toList).length + (B j).size ≤ 1099511627776) := by
            have := hTot.out (j + 1) hlt
            rw [outB_snoc, List.length_append, List.length_append, size_l] at this
            unfold Hid
            rw [S_l, List.length_append]
            omega
          clear hlt hj
          have T1 : True := trivial
          go_wp2_with (first
            | (at_builtin; clear T1; refine push_str _ rfl _ _ rfl wo.heap.size _ (outB H B 0 j) (S (H j)) rfl rfl ?_ ?_ ?_ ?_; (exact ho); (exact hsz); (exact hl1.out); intro v1 w1 hown1 hb1; have c5 := (hb1.cell hb4.out).trans c4; have hs1 := Nat.le_trans hsz hb1.size)
            | (at_builtin; refine push_str _ rfl _ _ rfl wo.heap.size _ (outB H B 0 j ++ (S (H j)).data.toList) (B j) rfl rfl ?_ ?_ ?_ ?_; (exact hown1); (exact hs1); (exact hl2.out); intro v2 w2 hown2 hb2))
          go_roundw
          case rel =>
            refine ⟨j + 1, hlt'.out, by simp, ?_, (HO.out.2.trans hb1).trans hb2⟩
            rw [outB_snoc, ← List.append_assoc]
            rw [S_l] at hown2
            exact hown2
          case measure =>
            have := hlt'.out
            simp [intOf]
            omega
        · obtain rfl : j = n := by omega
          have j1 : ¬ (j : Int) < (j : Int) := by omega
          have hback := own_back_any (P := Try.prog) wr wo.heap.size 50 9 5 _ _ _ Try.underlying50 Try.underlying5 Try.underlying9 HO.out.1
          go_wp2_with fail
          go_ret2
          refine ⟨⟨H, σ, sh, rfl, hSp.out⟩, hT.out.2.2.trans (HO.out.2.mono hT.out.2.2.size)⟩
    | succ i =>
      have hin : Hid (i < n) := hK
      have i0 : (0 : Int) ≤ (i : Int) := Int.natCast_nonneg _
      have i1 : (i : Int) < (n : Int) := Int.ofNat_lt.2 hK
      have ei : (((i + 1 : Nat) : Int) - 1) = (i : Int) := by omega
      rw [ei]
      obtain ⟨b, off, rfl, c0, c1, c2, c3, c4⟩ := (HG.out.1.below HI.out.2.2.2) i hK
      obtain ⟨gd1, gd2, gd3, gd4, gd5, gd6, _⟩ := HG.out.2.2.1 i hK
      have hLe := spL_le hK HI.out.1
      have hsb := HG.out.2.2.2.2
      obtain ⟨L, hL⟩ : ∃ L, spL D M B σ i = L := ⟨_, rfl⟩
      obtain ⟨d, hd⟩ : ∃ d : Nat, D i = (d : Int) := ⟨(D i).toNat, by omega⟩
      obtain ⟨cl, hc⟩ : ∃ d : Nat, C i = (d : Int) := ⟨(C i).toNat, by omega⟩
      obtain ⟨t, ht⟩ : ∃ d : Nat, T i = (d : Int) := ⟨(T i).toNat, by omega⟩
      have dn : (D i).toNat = d := by omega
      obtain ⟨m, hm⟩ : ∃ m, M i = m := ⟨_, rfl⟩
      obtain ⟨sb, hsB⟩ : ∃ sb, B i = sb := ⟨_, rfl⟩
      have HL : Hid (spL D M B σ i = L ∧ L ≤ 67108864 ∧ cl ≤ 3 ∧ t ≤ 30 ∧ d < 66 ∧ d ≤ 64 ∧ (C i).toNat = cl ∧ (T i).toNat = t ∧ (D i).toNat = d) := ⟨hL, by omega, by omega, by omega, by omega, by omega, by omega, by omega, by omega⟩
      have hv : ∀ x, σ.getD x 0 ≤ 67108864 := fun x => Nat.le_trans (hLe.2 x) hsb
      have hσ : Hid (σ.length = 66) := HI.out.1.1
      have d0 : (0 : Int) ≤ (d : Int) := Int.natCast_nonneg _
      have d1 : (d : Int) < 66 := by omega
      have e0 : (0 : Int) ≤ (d : Int) + 1 := by omega
      have e1 : (d : Int) + 1 < 66 := by omega
      have e2 : d + 1 < 66 := by omega
      have hd64 : d ≤ 64 := by omega
      have HLm : Hid ((m = true → L = σ.getD (d + 1) 0) ∧ (m = false → L = sb.size)) := by
        unfold Hid
        rw [← hL, ← hm, ← hsB]
        unfold spL BhSpM.len
        rw [dn]
        exact ⟨fun h => by rw [h]; rfl, fun h => by rw [h]; rfl⟩
      have HR : Hid (SpR w (wr.alloc (.cells #[.int .i64 (D i), .int .i64 (C i), .bool (M i), .int .i64 (T i), .string (B i)] 39)) wr.heap.size n (i + 1) σ H (D i) (C i) (M i) (T i) (B i)) := by
        obtain ⟨_, h1, h2, h3⟩ := HI.out
        exact ⟨h1.lt, h1.of (Below.heap_alloc _ _ _ h1.lt), h2.of (Below.heap_alloc _ _ _ h2.lt), Box.new _ _ _, h3.alloc h3.size _⟩
      have HLg : ∀ k, Says L k → ∀ W, Hid (Calls Try.prog 34 #[.agg #[.int .i64 (d : Int), .int .i64 (cl : Int), .bool m, .int .i64 (t : Int), .string sb], .int .i64 (L : Int), .int .i64 (k : Int)] W fun e w' => e = .returned (.string (S (hdrL cl m t L k))) ∧ Below W.heap.size W w') := fun k hk W => long_any _ cl m t sb L k HL.out.2.2.1 HL.out.2.2.2.1 (by have := HL.out.2.1; omega) hk W
      have FIN : ∀ (g k v : Nat) (W : World), Says L k → k ≤ 4 → v = (BhSpM.shut σ d m).getD d 0 + (2 + k) + L → SpR w W g n i (BhSpM.shut σ d m) (updH H i (hdrL cl m t L k)) (d : Int) (cl : Int) m (t : Int) sb → Hid (∃ (σ' : List Nat) (H' : Nat → List UInt8), SpI n i D C T M B σ' H' ∧ NumB (W.setCell ⟨w.heap.size + 1, d, none⟩ (.int .i64 (v : Int))) (w.heap.size + 1) σ' ∧ TxtB (W.setCell ⟨w.heap.size + 1, d, none⟩ (.int .i64 (v : Int))) w.heap.size n i H' ∧ Below w.heap.size w (W.setCell ⟨w.heap.size + 1, d, none⟩ (.int .i64 (v : Int)))) := fun g k v W hk h4 hv' hr => by
        have h1 := spI_step hK HI.out.1 HG.out.2.2.1 k h4 (by rw [hL]; exact hk)
        have h2 := hr.num (by rw [BhSpM.shut_len]; exact HI.out.1.1) d HL.out.2.2.2.2.1 v
        refine ⟨_, _, h1, ?_, ?_, h2.2.2.2.2⟩
        · have := h2.2.1
          rw [hv'] at this ⊢
          unfold spS BhSpM.stp
          rw [dn, hm, hsB]
          have e : BhSpM.len σ d m sb.size = L := by rw [← hL]; unfold spL; rw [dn, hm, hsB]
          rw [e]
          exact this
        · have := h2.2.2.1
          rw [hL, hm, HL.out.2.2.2.2.2.2.1, HL.out.2.2.2.2.2.2.2.1]
          exact this
      rw [hd, hc, ht, hm, hsB] at HR
      rw [hd] at c0
      rw [hc] at c1
      rw [hm] at c2
      rw [ht] at c3
      rw [hsB] at c4
      have we := wr_succ d hd64
      have wd := wr_pred i n hK hnn
      clear hd64 hK gd1 gd2 gd3 gd4 gd5 gd6 hLe hsb hL hd hc ht hm hsB dn hmk hnn
      go_upto_region 8 with fail
      generalize hW1 : wr.alloc (.cells #[.int .i64 (d : Int), .int .i64 (cl : Int), .bool m, .int .i64 (t : Int), .string sb] 39) = W1 at HR ⊢
      generalize hg : wr.heap.size = g at HR ⊢
      clear hW1 hg c0 c1 c2 c3 c4
      obtain ⟨x0, x1, x2, x3, x4⟩ := HR.out.node
      obtain ⟨y2, y3⟩ := HR.out.2.1.at (d + 1) e2
      have HR2 : Hid (∀ W, (m = false → W = W1) → (m = true → W = W1.setCell ⟨w.heap.size + 1, d + 1, none⟩ (.int .i64 0)) → SpR w W g n (i + 1) (BhSpM.shut σ d m) H (d : Int) (cl : Int) m (t : Int) sb) := by
        unfold Hid
        intro W h1 h2
        unfold BhSpM.shut
        cases m
        · rw [h1 rfl]; exact HR.out
        · rw [h2 rfl]
          exact HR.out.num hσ.out (d + 1) e2 0
      clear HR
      cases m
      · have hLB := HLm.out.2 rfl
        go_upto_region 12 with fail
        rw [← hLB]
        have HR3 : Hid (SpR w W1 g n (i + 1) (BhSpM.shut σ d false) H (d : Int) (cl : Int) false (t : Int) sb) := HR2.out W1 (fun _ => rfl) (fun h => by cases h)
        clear hLB HR2 x0 x1 x2 x3 x4 y2 y3
        generalize W1 = W2 at HR3 ⊢
        obtain ⟨x0, x1, x2, x3, x4⟩ := HR3.out.node
        have HWd : Hid (Calls Try.prog 33 #[.int .i64 (L : Int)] W2 fun e w' => e = .returned (.int .i64 (ll L : Int)) ∧ W2 = w') := (wide_any L W2).mono (by rintro e w' ⟨h1, h2⟩; exact ⟨h1, h2.symm⟩)
        have HK0 : Hid (Says L (ll L) ∧ ll L ≤ 4 ∧ ∀ k, ll L < k → k ≤ 4 → Says L k) := ⟨says_wide L (by have := HL.out.2.1; omega), ll_le L, says_more L⟩
        generalize ll L = k0 at HWd HK0
        by_cases hfi : i < fn
        · obtain ⟨fb, fo, rfl, c5⟩ := (HG.out.2.1.below HR3.out.2.2.2.2) i hfi
          have f1 : (i : Int) < (fn : Int) := Int.ofNat_lt.2 hfi
          obtain ⟨fv, hfv⟩ : ∃ v, F i = v := ⟨_, rfl⟩
          rw [hfv] at c5
          clear hfv hfi
          by_cases q1 : (k0 : Int) < fv
          · by_cases q2 : fv ≤ 4
            · obtain ⟨k1, rfl⟩ : ∃ k : Nat, fv = (k : Int) := ⟨fv.toNat, by omega⟩
              have HK : Hid (Says L k1 ∧ k1 ≤ 4) := ⟨HK0.out.2.2 k1 (by omega) (by omega), by omega⟩
              go_upto_region 16 with (go_at_call 33; refine HWd.out.mono ?_; rintro e w' ⟨rfl, hw'⟩; subst hw')
              have HLk := HLg k1 HK.out.1
              have hXs : (S (hdrL cl false t L k1)).size = 2 + k1 := by rw [S_size, hdrL_len]
              have FINk : Hid (∀ (v : Nat) (W : World), v = (BhSpM.shut σ d false).getD d 0 + (2 + k1) + L → SpR w W g n i (BhSpM.shut σ d false) (updH H i (hdrL cl false t L k1)) (d : Int) (cl : Int) false (t : Int) sb → Hid (∃ (σ' : List Nat) (H' : Nat → List UInt8), SpI n i D C T M B σ' H' ∧ NumB (W.setCell ⟨w.heap.size + 1, d, none⟩ (.int .i64 (v : Int))) (w.heap.size + 1) σ' ∧ TxtB (W.setCell ⟨w.heap.size + 1, d, none⟩ (.int .i64 (v : Int))) w.heap.size n i H' ∧ Below w.heap.size w (W.setCell ⟨w.heap.size + 1, d, none⟩ (.int .i64 (v : Int))))) := fun v W h1 h2 => FIN g k1 v W HK.out.1 HK.out.2 h1 h2
              have HTX : Hid (∀ W, SpR w W g n (i + 1) (BhSpM.shut σ d false) H (d : Int) (cl : Int) false (t : Int) sb → SpR w (W.setCell ⟨w.heap.size, i, none⟩ (.string (S (hdrL cl false t L k1)))) g n i (BhSpM.shut σ d false) (updH H i (hdrL cl false t L k1)) (d : Int) (cl : Int) false (t : Int) sb) := fun W h => h.txt hin.out _
              have HPH : Hid (updH H i (hdrL cl false t L k1) i = hdrL cl false t L k1) := if_pos rfl
              have hX : Hid (∃ X, X = S (hdrL cl false t L k1)) := ⟨_, rfl⟩
              obtain ⟨X, hX⟩ := hX.out
              rw [← hX] at HLk hXs HTX
              have HX : Hid (X = S (hdrL cl false t L k1)) := hX
              clear HLg FIN hX
              go_upto_region 17 with (go_at_call 34; refine (HLk _).out.mono ?_; rintro e w3 ⟨rfl, hb3⟩; have HR4 : Hid (SpR w w3 g n (i + 1) (BhSpM.shut σ d false) H (d : Int) (cl : Int) false (t : Int) sb) := HR3.out.of hb3; obtain ⟨vx, z1, z2⟩ := HR4.out.2.2.1.any i hin.out)
              have HR5 := HTX.out w3 HR4.out
              have HR5 : Hid (SpR w (w3.setCell ⟨w.heap.size, i, none⟩ (.string X)) g n i (BhSpM.shut σ d false) (updH H i (hdrL cl false t L k1)) (d : Int) (cl : Int) false (t : Int) sb) := HR5
              clear z1 z2 HR4 HTX x0 x1 x2 x3 x4
              generalize w3.setCell ⟨w.heap.size, i, none⟩ (.string X) = W4 at HR5 ⊢
              have n0 := HR5.out.node.1
              obtain ⟨p7, p8⟩ := HR5.out.2.1.at d HL.out.2.2.2.2.1
              have ph : W4.cell? ⟨w.heap.size, i, none⟩ = some (.string X) := by
                rw [HR5.out.2.2.1.at i (Nat.le_refl _) hin.out, HPH.out, HX.out]
              have hneg : Hid (g ≠ w.heap.size + 1) := by have := HR5.out.1; unfold Hid; omega
              have hneh : Hid (w.heap.size ≠ w.heap.size + 1) := by unfold Hid; omega
              have hvd : (BhSpM.shut σ d false).getD d 0 ≤ 67108864 := by rw [BhSpM.shut_at]; exact hv d
              obtain ⟨v, hvv⟩ : ∃ v, (BhSpM.shut σ d false).getD d 0 = v := ⟨_, rfl⟩
              rw [hvv] at p7 hvd
              have HV : Hid ((BhSpM.shut σ d false).getD d 0 = v ∧ X.size = 2 + k1) := ⟨hvv, hXs⟩
              have wq := wr_three v X.size L hvd (by rw [hXs]; have := HK.out.2; omega) HL.out.2.1
              obtain ⟨wq1, wq2⟩ := wq
              clear hvv hvd hXs hv
              refine wp_region_noPanic ?_
              refine wp_region_held_drew (S := fun W' => W'.cell? ⟨g, 0, none⟩ = some (.int .i64 (d : Int)) ∧ W'.cell? ⟨w.heap.size, i, none⟩ = some (.string X)) (by kernel_rfl) ⟨n0, ph⟩ (fun _ => ?_)
              refine wpAnyH_take (i := 0) (v := ?va1_1) (by simp only [List.getElem?_toArray, List.getElem?_cons_zero]; exact rfl) (by kernel_rfl) (by kernel_rfl) (by kernel_rfl) (fun _ _ _ h => h) (Or.inl ⟨by rfl, ?ya1_1⟩) ⟨n0, ph⟩ ?ra1_1
              case ya1_1 =>
                intro w' hS
                obtain ⟨s1, s2⟩ := hS
                go_simp
                try with_reducible rfl
              case ra1_1 =>
              simp only [Act.put, List.setIfInBounds_toArray, List.set_cons_zero, List.set_cons_succ]
              refine wpAnyH_take (i := 1) (v := ?va2_1) (by simp only [List.getElem?_toArray, List.getElem?_cons_zero, List.getElem?_cons_succ]; exact rfl) (by kernel_rfl) (by kernel_rfl) (by kernel_rfl) (fun _ _ _ h => h) (Or.inl ⟨by rfl, ?ya2_1⟩) ⟨n0, ph⟩ ?ra2_1
              case ya2_1 =>
                intro w' hS
                obtain ⟨s1, s2⟩ := hS
                go_simp
                try with_reducible rfl
              case ra2_1 =>
              simp only [Act.put, List.setIfInBounds_toArray, List.set_cons_zero, List.set_cons_succ]
              refine wpAnyH_take (i := 2) (v := ?va3_1) (by simp only [List.getElem?_toArray, List.getElem?_cons_zero, List.getElem?_cons_succ]; exact rfl) (by kernel_rfl) (by kernel_rfl) (by kernel_rfl) (fun _ _ _ h => h) (Or.inl ⟨by rfl, ?ya3_1⟩) ⟨n0, ph⟩ ?ra3_1
              case ya3_1 =>
                intro w' hS
                obtain ⟨s1, s2⟩ := hS
                go_simp
                try with_reducible rfl
              case ra3_1 =>
              simp only [Act.put, List.setIfInBounds_toArray, List.set_cons_zero, List.set_cons_succ]
              refine wpAnyH_take (i := 3) (v := ?va4_1) (by simp only [List.getElem?_toArray, List.getElem?_cons_zero, List.getElem?_cons_succ]; exact rfl) (by kernel_rfl) (by kernel_rfl) (by kernel_rfl) (fun _ _ _ h => h) (Or.inl ⟨by rfl, ?ya4_1⟩) ⟨n0, ph⟩ ?ra4_1
              case ya4_1 =>
                intro w' hS
                obtain ⟨s1, s2⟩ := hS
                go_simp
                try with_reducible rfl
              case ra4_1 =>
              simp only [Act.put, List.setIfInBounds_toArray, List.set_cons_zero, List.set_cons_succ]
              refine wpAnyH_take (i := 4) (v := ?va5_1) (by simp only [List.getElem?_toArray, List.getElem?_cons_zero, List.getElem?_cons_succ]; exact rfl) (by kernel_rfl) (by kernel_rfl) (by kernel_rfl) (fun _ _ _ h => h) (Or.inl ⟨by rfl, ?ya5_1⟩) ⟨n0, ph⟩ ?ra5_1
              case ya5_1 =>
                intro w' hS
                obtain ⟨s1, s2⟩ := hS
                go_simp
                try with_reducible rfl
              case ra5_1 =>
              simp only [Act.put, List.setIfInBounds_toArray, List.set_cons_zero, List.set_cons_succ]
              refine wpAnyH_take (i := 6) (v := ?va6_1) (by simp only [List.getElem?_toArray, List.getElem?_cons_zero, List.getElem?_cons_succ]; exact rfl) (by kernel_rfl) (by kernel_rfl) (by kernel_rfl) (fun _ _ _ h => h) (Or.inl ⟨by rfl, ?ya6_1⟩) ⟨n0, ph⟩ ?ra6_1
              case ya6_1 =>
                intro w' hS
                obtain ⟨s1, s2⟩ := hS
                go_simp
                try with_reducible rfl
              case ra6_1 =>
              simp only [Act.put, List.setIfInBounds_toArray, List.set_cons_zero, List.set_cons_succ]
              refine wpAnyH_take (i := 7) (v := ?va7_1) (by simp only [List.getElem?_toArray, List.getElem?_cons_zero, List.getElem?_cons_succ]; exact rfl) (by kernel_rfl) (by kernel_rfl) (by kernel_rfl) (fun _ _ _ h => h) (Or.inl ⟨by rfl, ?ya7_1⟩) ⟨n0, ph⟩ ?ra7_1
              case ya7_1 =>
                intro w' hS
                obtain ⟨s1, s2⟩ := hS
                go_simp
                try with_reducible rfl
              case ra7_1 =>
              simp only [Act.put, List.setIfInBounds_toArray, List.set_cons_zero, List.set_cons_succ]
              refine wpAnyH_take (i := 8) (v := ?va8_1) (by simp only [List.getElem?_toArray, List.getElem?_cons_zero, List.getElem?_cons_succ]; exact rfl) (by kernel_rfl) (by kernel_rfl) (by kernel_rfl) (fun _ _ _ h => h) (Or.inl ⟨by rfl, ?ya8_1⟩) ⟨n0, ph⟩ ?ra8_1
              case ya8_1 =>
                intro w' hS
                obtain ⟨s1, s2⟩ := hS
                go_simp
                try with_reducible rfl
              case ra8_1 =>
              simp only [Act.put, List.setIfInBounds_toArray, List.set_cons_zero, List.set_cons_succ]
              refine wpAnyH_take (i := 9) (v := ?va9_1) (by simp only [List.getElem?_toArray, List.getElem?_cons_zero, List.getElem?_cons_succ]; exact rfl) (by kernel_rfl) (by kernel_rfl) (by kernel_rfl) (fun _ _ _ h => h) (Or.inl ⟨by rfl, ?ya9_1⟩) ⟨n0, ph⟩ ?ra9_1
              case ya9_1 =>
                intro w' hS
                obtain ⟨s1, s2⟩ := hS
                go_simp
                try with_reducible rfl
              case ra9_1 =>
              simp only [Act.put, List.setIfInBounds_toArray, List.set_cons_zero, List.set_cons_succ]
              refine wpAnyH_take (i := 10) (v := ?va10_1) (by simp only [List.getElem?_toArray, List.getElem?_cons_zero, List.getElem?_cons_succ]; exact rfl) (by kernel_rfl) (by kernel_rfl) (by kernel_rfl) (fun _ _ _ h => h) (Or.inl ⟨by rfl, ?ya10_1⟩) ⟨n0, ph⟩ ?ra10_1
              case ya10_1 =>
                intro w' hS
                obtain ⟨s1, s2⟩ := hS
                go_simp
                try with_reducible rfl
              case ra10_1 =>
              simp only [Act.put, List.setIfInBounds_toArray, List.set_cons_zero, List.set_cons_succ]
              refine wpAnyH_take (i := 12) (v := ?va11_1) (by simp only [List.getElem?_toArray, List.getElem?_cons_zero, List.getElem?_cons_succ]; exact rfl) (by kernel_rfl) (by kernel_rfl) (by kernel_rfl) (fun _ _ _ h => h) (Or.inl ⟨by rfl, ?ya11_1⟩) ⟨n0, ph⟩ ?ra11_1
              case ya11_1 =>
                intro w' hS
                obtain ⟨s1, s2⟩ := hS
                go_simp
                try with_reducible rfl
              case ra11_1 =>
              simp only [Act.put, List.setIfInBounds_toArray, List.set_cons_zero, List.set_cons_succ]
              refine wpAnyH_ready (rs := [5]) (by kernel_rfl) (by simp) ?_
              refine AllReadyH.cons (by simp only [List.getElem?_toArray, List.getElem?_cons_zero, List.getElem?_cons_succ]; exact rfl) (fun K hK => ?_) AllReadyH.nil
              go_simp
              refine hK.out _ _ ⟨n0, ph⟩ (fun _ => ?_)
              clear hK K
              refine wpAnyH_take (i := 11) (v := ?va12_1) (by simp only [List.getElem?_toArray, List.getElem?_cons_zero, List.getElem?_cons_succ]; exact rfl) (by kernel_rfl) (by kernel_rfl) (by kernel_rfl) (fun _ _ _ h => h) (Or.inl ⟨by rfl, ?ya12_1⟩) ⟨n0, ph⟩ ?ra12_1
              case ya12_1 =>
                intro w' hS
                obtain ⟨s1, s2⟩ := hS
                go_simp
                try with_reducible rfl
              case ra12_1 =>
              simp only [Act.put, List.setIfInBounds_toArray, List.set_cons_zero, List.set_cons_succ]
              refine wpAnyH_take (i := 13) (v := ?va13_1) (by simp only [List.getElem?_toArray, List.getElem?_cons_zero, List.getElem?_cons_succ]; exact rfl) (by kernel_rfl) (by kernel_rfl) (by kernel_rfl) (fun _ _ _ h => h) (Or.inl ⟨by rfl, ?ya13_1⟩) ⟨n0, ph⟩ ?ra13_1
              case ya13_1 =>
                intro w' hS
                obtain ⟨s1, s2⟩ := hS
                go_simp
                try with_reducible rfl
              case ra13_1 =>
              simp only [Act.put, List.setIfInBounds_toArray, List.set_cons_zero, List.set_cons_succ]
              refine wpAnyH_take (i := 14) (v := ?va14_1) (by simp only [List.getElem?_toArray, List.getElem?_cons_zero, List.getElem?_cons_succ]; exact rfl) (by kernel_rfl) (by kernel_rfl) (by kernel_rfl) (fun _ _ _ h => h) (Or.inl ⟨by rfl, ?ya14_1⟩) ⟨n0, ph⟩ ?ra14_1
              case ya14_1 =>
                intro w' hS
                obtain ⟨s1, s2⟩ := hS
                go_simp
                try with_reducible rfl
              case ra14_1 =>
              simp only [Act.put, List.setIfInBounds_toArray, List.set_cons_zero, List.set_cons_succ]
              refine wpAnyH_ready (rs := [15]) (by kernel_rfl) (by simp) ?_
              refine AllReadyH.cons (by simp only [List.getElem?_toArray, List.getElem?_cons_zero, List.getElem?_cons_succ]; exact rfl) (fun K hK => ?_) AllReadyH.nil
              go_simp
              refine hK.out _ _ ⟨(cell_setB hneg.out).trans n0, (cell_setB hneh.out).trans ph⟩ (fun _ => ?_)
              clear hK K
              refine wpAnyH_done (by kernel_rfl) ?_ _
              refine NoPanic.normal ?_
              go_wp2_with fail
              go_roundw
              case rel =>
                obtain ⟨σ', H', f1, f2, f3, f4⟩ := (FINk.out (v + X.size + L) W4 (by rw [HV.out.1, HV.out.2]) HR5.out).out
                have e : ((v + X.size + L : Nat) : Int) = (v : Int) + (X.size : Int) + (L : Int) := by omega
                rw [e] at f2 f3 f4
                rw [wd]
                rw [wq1, wq2]
                exact ⟨i, _, σ', H', Nat.le_of_lt hin.out, rfl, rfl, f1, f2.of rfl, f3.of rfl, f4.drew⟩
              case measure =>
                rw [wd]
                simp [intOf]
            · have HK : Hid (Says L k0 ∧ k0 ≤ 4) := ⟨HK0.out.1, HK0.out.2.1⟩
              go_upto_region 16 with (go_at_call 33; refine HWd.out.mono ?_; rintro e w' ⟨rfl, hw'⟩; subst hw')
              have HLk := HLg k0 HK.out.1
              have hXs : (S (hdrL cl false t L k0)).size = 2 + k0 := by rw [S_size, hdrL_len]
              have FINk : Hid (∀ (v : Nat) (W : World), v = (BhSpM.shut σ d false).getD d 0 + (2 + k0) + L → SpR w W g n i (BhSpM.shut σ d false) (updH H i (hdrL cl false t L k0)) (d : Int) (cl : Int) false (t : Int) sb → Hid (∃ (σ' : List Nat) (H' : Nat → List UInt8), SpI n i D C T M B σ' H' ∧ NumB (W.setCell ⟨w.heap.size + 1, d, none⟩ (.int .i64 (v : Int))) (w.heap.size + 1) σ' ∧ TxtB (W.setCell ⟨w.heap.size + 1, d, none⟩ (.int .i64 (v : Int))) w.heap.size n i H' ∧ Below w.heap.size w (W.setCell ⟨w.heap.size + 1, d, none⟩ (.int .i64 (v : Int))))) := fun v W h1 h2 => FIN g k0 v W HK.out.1 HK.out.2 h1 h2
              have HTX : Hid (∀ W, SpR w W g n (i + 1) (BhSpM.shut σ d false) H (d : Int) (cl : Int) false (t : Int) sb → SpR w (W.setCell ⟨w.heap.size, i, none⟩ (.string (S (hdrL cl false t L k0)))) g n i (BhSpM.shut σ d false) (updH H i (hdrL cl false t L k0)) (d : Int) (cl : Int) false (t : Int) sb) := fun W h => h.txt hin.out _
              have HPH : Hid (updH H i (hdrL cl false t L k0) i = hdrL cl false t L k0) := if_pos rfl
              have hX : Hid (∃ X, X = S (hdrL cl false t L k0)) := ⟨_, rfl⟩
              obtain ⟨X, hX⟩ := hX.out
              rw [← hX] at HLk hXs HTX
              have HX : Hid (X = S (hdrL cl false t L k0)) := hX
              clear HLg FIN hX
              go_upto_region 17 with (go_at_call 34; refine (HLk _).out.mono ?_; rintro e w3 ⟨rfl, hb3⟩; have HR4 : Hid (SpR w w3 g n (i + 1) (BhSpM.shut σ d false) H (d : Int) (cl : Int) false (t : Int) sb) := HR3.out.of hb3; obtain ⟨vx, z1, z2⟩ := HR4.out.2.2.1.any i hin.out)
              have HR5 := HTX.out w3 HR4.out
              have HR5 : Hid (SpR w (w3.setCell ⟨w.heap.size, i, none⟩ (.string X)) g n i (BhSpM.shut σ d false) (updH H i (hdrL cl false t L k0)) (d : Int) (cl : Int) false (t : Int) sb) := HR5
              clear z1 z2 HR4 HTX x0 x1 x2 x3 x4
              generalize w3.setCell ⟨w.heap.size, i, none⟩ (.string X) = W4 at HR5 ⊢
              have n0 := HR5.out.node.1
              obtain ⟨p7, p8⟩ := HR5.out.2.1.at d HL.out.2.2.2.2.1
              have ph : W4.cell? ⟨w.heap.size, i, none⟩ = some (.string X) := by
                rw [HR5.out.2.2.1.at i (Nat.le_refl _) hin.out, HPH.out, HX.out]
              have hneg : Hid (g ≠ w.heap.size + 1) := by have := HR5.out.1; unfold Hid; omega
              have hneh : Hid (w.heap.size ≠ w.heap.size + 1) := by unfold Hid; omega
              have hvd : (BhSpM.shut σ d false).getD d 0 ≤ 67108864 := by rw [BhSpM.shut_at]; exact hv d
              obtain ⟨v, hvv⟩ : ∃ v, (BhSpM.shut σ d false).getD d 0 = v := ⟨_, rfl⟩
              rw [hvv] at p7 hvd
              have HV : Hid ((BhSpM.shut σ d false).getD d 0 = v ∧ X.size = 2 + k0) := ⟨hvv, hXs⟩
              have wq := wr_three v X.size L hvd (by rw [hXs]; have := HK.out.2; omega) HL.out.2.1
              obtain ⟨wq1, wq2⟩ := wq
              clear hvv hvd hXs hv
              refine wp_region_noPanic ?_
              refine wp_region_held_drew (S := fun W' => W'.cell? ⟨g, 0, none⟩ = some (.int .i64 (d : Int)) ∧ W'.cell? ⟨w.heap.size, i, none⟩ = some (.string X)) (by kernel_rfl) ⟨n0, ph⟩ (fun _ => ?_)
              refine wpAnyH_take (i := 0) (v := ?va1_2) (by simp only [List.getElem?_toArray, List.getElem?_cons_zero]; exact rfl) (by kernel_rfl) (by kernel_rfl) (by kernel_rfl) (fun _ _ _ h => h) (Or.inl ⟨by rfl, ?ya1_2⟩) ⟨n0, ph⟩ ?ra1_2
              case ya1_2 =>
                intro w' hS
                obtain ⟨s1, s2⟩ := hS
                go_simp
                try with_reducible rfl
              case ra1_2 =>
              simp only [Act.put, List.setIfInBounds_toArray, List.set_cons_zero, List.set_cons_succ]
              refine wpAnyH_take (i := 1) (v := ?va2_2) (by simp only [List.getElem?_toArray, List.getElem?_cons_zero, List.getElem?_cons_succ]; exact rfl) (by kernel_rfl) (by kernel_rfl) (by kernel_rfl) (fun _ _ _ h => h) (Or.inl ⟨by rfl, ?ya2_2⟩) ⟨n0, ph⟩ ?ra2_2
              case ya2_2 =>
                intro w' hS
                obtain ⟨s1, s2⟩ := hS
                go_simp
                try with_reducible rfl
              case ra2_2 =>
              simp only [Act.put, List.setIfInBounds_toArray, List.set_cons_zero, List.set_cons_succ]
              refine wpAnyH_take (i := 2) (v := ?va3_2) (by simp only [List.getElem?_toArray, List.getElem?_cons_zero, List.getElem?_cons_succ]; exact rfl) (by kernel_rfl) (by kernel_rfl) (by kernel_rfl) (fun _ _ _ h => h) (Or.inl ⟨by rfl, ?ya3_2⟩) ⟨n0, ph⟩ ?ra3_2
              case ya3_2 =>
                intro w' hS
                obtain ⟨s1, s2⟩ := hS
                go_simp
                try with_reducible rfl
              case ra3_2 =>
              simp only [Act.put, List.setIfInBounds_toArray, List.set_cons_zero, List.set_cons_succ]
              refine wpAnyH_take (i := 3) (v := ?va4_2) (by simp only [List.getElem?_toArray, List.getElem?_cons_zero, List.getElem?_cons_succ]; exact rfl) (by kernel_rfl) (by kernel_rfl) (by kernel_rfl) (fun _ _ _ h => h) (Or.inl ⟨by rfl, ?ya4_2⟩) ⟨n0, ph⟩ ?ra4_2
              case ya4_2 =>
                intro w' hS
                obtain ⟨s1, s2⟩ := hS
                go_simp
                try with_reducible rfl
              case ra4_2 =>
              simp only [Act.put, List.setIfInBounds_toArray, List.set_cons_zero, List.set_cons_succ]
              refine wpAnyH_take (i := 4) (v := ?va5_2) (by simp only [List.getElem?_toArray, List.getElem?_cons_zero, List.getElem?_cons_succ]; exact rfl) (by kernel_rfl) (by kernel_rfl) (by kernel_rfl) (fun _ _ _ h => h) (Or.inl ⟨by rfl, ?ya5_2⟩) ⟨n0, ph⟩ ?ra5_2
              case ya5_2 =>
                intro w' hS
                obtain ⟨s1, s2⟩ := hS
                go_simp
                try with_reducible rfl
              case ra5_2 =>
              simp only [Act.put, List.setIfInBounds_toArray, List.set_cons_zero, List.set_cons_succ]
              refine wpAnyH_take (i := 6) (v := ?va6_2) (by simp only [List.getElem?_toArray, List.getElem?_cons_zero, List.getElem?_cons_succ]; exact rfl) (by kernel_rfl) (by kernel_rfl) (by kernel_rfl) (fun _ _ _ h => h) (Or.inl ⟨by rfl, ?ya6_2⟩) ⟨n0, ph⟩ ?ra6_2
              case ya6_2 =>
                intro w' hS
                obtain ⟨s1, s2⟩ := hS
                go_simp
                try with_reducible rfl
              case ra6_2 =>
              simp only [Act.put, List.setIfInBounds_toArray, List.set_cons_zero, List.set_cons_succ]
              refine wpAnyH_take (i := 7) (v := ?va7_2) (by simp only [List.getElem?_toArray, List.getElem?_cons_zero, List.getElem?_cons_succ]; exact rfl) (by kernel_rfl) (by kernel_rfl) (by kernel_rfl) (fun _ _ _ h => h) (Or.inl ⟨by rfl, ?ya7_2⟩) ⟨n0, ph⟩ ?ra7_2
              case ya7_2 =>
                intro w' hS
                obtain ⟨s1, s2⟩ := hS
                go_simp
                try with_reducible rfl
              case ra7_2 =>
              simp only [Act.put, List.setIfInBounds_toArray, List.set_cons_zero, List.set_cons_succ]
              refine wpAnyH_take (i := 8) (v := ?va8_2) (by simp only [List.getElem?_toArray, List.getElem?_cons_zero, List.getElem?_cons_succ]; exact rfl) (by kernel_rfl) (by kernel_rfl) (by kernel_rfl) (fun _ _ _ h => h) (Or.inl ⟨by rfl, ?ya8_2⟩) ⟨n0, ph⟩ ?ra8_2
              case ya8_2 =>
                intro w' hS
                obtain ⟨s1, s2⟩ := hS
                go_simp
                try with_reducible rfl
              case ra8_2 =>
              simp only [Act.put, List.setIfInBounds_toArray, List.set_cons_zero, List.set_cons_succ]
              refine wpAnyH_take (i := 9) (v := ?va9_2) (by simp only [List.getElem?_toArray, List.getElem?_cons_zero, List.getElem?_cons_succ]; exact rfl) (by kernel_rfl) (by kernel_rfl) (by kernel_rfl) (fun _ _ _ h => h) (Or.inl ⟨by rfl, ?ya9_2⟩) ⟨n0, ph⟩ ?ra9_2
              case ya9_2 =>
                intro w' hS
                obtain ⟨s1, s2⟩ := hS
                go_simp
                try with_reducible rfl
              case ra9_2 =>
              simp only [Act.put, List.setIfInBounds_toArray, List.set_cons_zero, List.set_cons_succ]
              refine wpAnyH_take (i := 10) (v := ?va10_2) (by simp only [List.getElem?_toArray, List.getElem?_cons_zero, List.getElem?_cons_succ]; exact rfl) (by kernel_rfl) (by kernel_rfl) (by kernel_rfl) (fun _ _ _ h => h) (Or.inl ⟨by rfl, ?ya10_2⟩) ⟨n0, ph⟩ ?ra10_2
              case ya10_2 =>
                intro w' hS
                obtain ⟨s1, s2⟩ := hS
                go_simp
                try with_reducible rfl
              case ra10_2 =>
              simp only [Act.put, List.setIfInBounds_toArray, List.set_cons_zero, List.set_cons_succ]
              refine wpAnyH_take (i := 12) (v := ?va11_2) (by simp only [List.getElem?_toArray, List.getElem?_cons_zero, List.getElem?_cons_succ]; exact rfl) (by kernel_rfl) (by kernel_rfl) (by kernel_rfl) (fun _ _ _ h => h) (Or.inl ⟨by rfl, ?ya11_2⟩) ⟨n0, ph⟩ ?ra11_2
              case ya11_2 =>
                intro w' hS
                obtain ⟨s1, s2⟩ := hS
                go_simp
                try with_reducible rfl
              case ra11_2 =>
              simp only [Act.put, List.setIfInBounds_toArray, List.set_cons_zero, List.set_cons_succ]
              refine wpAnyH_ready (rs := [5]) (by kernel_rfl) (by simp) ?_
              refine AllReadyH.cons (by simp only [List.getElem?_toArray, List.getElem?_cons_zero, List.getElem?_cons_succ]; exact rfl) (fun K hK => ?_) AllReadyH.nil
              go_simp
              refine hK.out _ _ ⟨n0, ph⟩ (fun _ => ?_)
              clear hK K
              refine wpAnyH_take (i := 11) (v := ?va12_2) (by simp only [List.getElem?_toArray, List.getElem?_cons_zero, List.getElem?_cons_succ]; exact rfl) (by kernel_rfl) (by kernel_rfl) (by kernel_rfl) (fun _ _ _ h => h) (Or.inl ⟨by rfl, ?ya12_2⟩) ⟨n0, ph⟩ ?ra12_2
              case ya12_2 =>
                intro w' hS
                obtain ⟨s1, s2⟩ := hS
                go_simp
                try with_reducible rfl
              case ra12_2 =>
              simp only [Act.put, List.setIfInBounds_toArray, List.set_cons_zero, List.set_cons_succ]
              refine wpAnyH_take (i := 13) (v := ?va13_2) (by simp only [List.getElem?_toArray, List.getElem?_cons_zero, List.getElem?_cons_succ]; exact rfl) (by kernel_rfl) (by kernel_rfl) (by kernel_rfl) (fun _ _ _ h => h) (Or.inl ⟨by rfl, ?ya13_2⟩) ⟨n0, ph⟩ ?ra13_2
              case ya13_2 =>
                intro w' hS
                obtain ⟨s1, s2⟩ := hS
                go_simp
                try with_reducible rfl
              case ra13_2 =>
              simp only [Act.put, List.setIfInBounds_toArray, List.set_cons_zero, List.set_cons_succ]
              refine wpAnyH_take (i := 14) (v := ?va14_2) (by simp only [List.getElem?_toArray, List.getElem?_cons_zero, List.getElem?_cons_succ]; exact rfl) (by kernel_rfl) (by kernel_rfl) (by kernel_rfl) (fun _ _ _ h => h) (Or.inl ⟨by rfl, ?ya14_2⟩) ⟨n0, ph⟩ ?ra14_2
              case ya14_2 =>
                intro w' hS
                obtain ⟨s1, s2⟩ := hS
                go_simp
                try with_reducible rfl
              case ra14_2 =>
              simp only [Act.put, List.setIfInBounds_toArray, List.set_cons_zero, List.set_cons_succ]
              refine wpAnyH_ready (rs := [15]) (by kernel_rfl) (by simp) ?_
              refine AllReadyH.cons (by simp only [List.getElem?_toArray, List.getElem?_cons_zero, List.getElem?_cons_succ]; exact rfl) (fun K hK => ?_) AllReadyH.nil
              go_simp
              refine hK.out _ _ ⟨(cell_setB hneg.out).trans n0, (cell_setB hneh.out).trans ph⟩ (fun _ => ?_)
              clear hK K
              refine wpAnyH_done (by kernel_rfl) ?_ _
              refine NoPanic.normal ?_
              go_wp2_with fail
              go_roundw
              case rel =>
                obtain ⟨σ', H', f1, f2, f3, f4⟩ := (FINk.out (v + X.size + L) W4 (by rw [HV.out.1, HV.out.2]) HR5.out).out
                have e : ((v + X.size + L : Nat) : Int) = (v : Int) + (X.size : Int) + (L : Int) := by omega
                rw [e] at f2 f3 f4
                rw [wd]
                rw [wq1, wq2]
                exact ⟨i, _, σ', H', Nat.le_of_lt hin.out, rfl, rfl, f1, f2.of rfl, f3.of rfl, f4.drew⟩
              case measure =>
                rw [wd]
                simp [intOf]
          · have HK : Hid (Says L k0 ∧ k0 ≤ 4) := ⟨HK0.out.1, HK0.out.2.1⟩
            go_upto_region 16 with (go_at_call 33; refine HWd.out.mono ?_; rintro e w' ⟨rfl, hw'⟩; subst hw')
            have HLk := HLg k0 HK.out.1
            have hXs : (S (hdrL cl false t L k0)).size = 2 + k0 := by rw [S_size, hdrL_len]
            have FINk : Hid (∀ (v : Nat) (W : World), v = (BhSpM.shut σ d false).getD d 0 + (2 + k0) + L → SpR w W g n i (BhSpM.shut σ d false) (updH H i (hdrL cl false t L k0)) (d : Int) (cl : Int) false (t : Int) sb → Hid (∃ (σ' : List Nat) (H' : Nat → List UInt8), SpI n i D C T M B σ' H' ∧ NumB (W.setCell ⟨w.heap.size + 1, d, none⟩ (.int .i64 (v : Int))) (w.heap.size + 1) σ' ∧ TxtB (W.setCell ⟨w.heap.size + 1, d, none⟩ (.int .i64 (v : Int))) w.heap.size n i H' ∧ Below w.heap.size w (W.setCell ⟨w.heap.size + 1, d, none⟩ (.int .i64 (v : Int))))) := fun v W h1 h2 => FIN g k0 v W HK.out.1 HK.out.2 h1 h2
            have HTX : Hid (∀ W, SpR w W g n (i + 1) (BhSpM.shut σ d false) H (d : Int) (cl : Int) false (t : Int) sb → SpR w (W.setCell ⟨w.heap.size, i, none⟩ (.string (S (hdrL cl false t L k0)))) g n i (BhSpM.shut σ d false) (updH H i (hdrL cl false t L k0)) (d : Int) (cl : Int) false (t : Int) sb) := fun W h => h.txt hin.out _
            have HPH : Hid (updH H i (hdrL cl false t L k0) i = hdrL cl false t L k0) := if_pos rfl
            have hX : Hid (∃ X, X = S (hdrL cl false t L k0)) := ⟨_, rfl⟩
            obtain ⟨X, hX⟩ := hX.out
            rw [← hX] at HLk hXs HTX
            have HX : Hid (X = S (hdrL cl false t L k0)) := hX
            clear HLg FIN hX
            go_upto_region 17 with (go_at_call 34; refine (HLk _).out.mono ?_; rintro e w3 ⟨rfl, hb3⟩; have HR4 : Hid (SpR w w3 g n (i + 1) (BhSpM.shut σ d false) H (d : Int) (cl : Int) false (t : Int) sb) := HR3.out.of hb3; obtain ⟨vx, z1, z2⟩ := HR4.out.2.2.1.any i hin.out)
            have HR5 := HTX.out w3 HR4.out
            have HR5 : Hid (SpR w (w3.setCell ⟨w.heap.size, i, none⟩ (.string X)) g n i (BhSpM.shut σ d false) (updH H i (hdrL cl false t L k0)) (d : Int) (cl : Int) false (t : Int) sb) := HR5
            clear z1 z2 HR4 HTX x0 x1 x2 x3 x4
            generalize w3.setCell ⟨w.heap.size, i, none⟩ (.string X) = W4 at HR5 ⊢
            have n0 := HR5.out.node.1
            obtain ⟨p7, p8⟩ := HR5.out.2.1.at d HL.out.2.2.2.2.1
            have ph : W4.cell? ⟨w.heap.size, i, none⟩ = some (.string X) := by
              rw [HR5.out.2.2.1.at i (Nat.le_refl _) hin.out, HPH.out, HX.out]
            have hneg : Hid (g ≠ w.heap.size + 1) := by have := HR5.out.1; unfold Hid; omega
            have hneh : Hid (w.heap.size ≠ w.heap.size + 1) := by unfold Hid; omega
            have hvd : (BhSpM.shut σ d false).getD d 0 ≤ 67108864 := by rw [BhSpM.shut_at]; exact hv d
            obtain ⟨v, hvv⟩ : ∃ v, (BhSpM.shut σ d false).getD d 0 = v := ⟨_, rfl⟩
            rw [hvv] at p7 hvd
            have HV : Hid ((BhSpM.shut σ d false).getD d 0 = v ∧ X.size = 2 + k0) := ⟨hvv, hXs⟩
            have wq := wr_three v X.size L hvd (by rw [hXs]; have := HK.out.2; omega) HL.out.2.1
            obtain ⟨wq1, wq2⟩ := wq
            clear hvv hvd hXs hv
            refine wp_region_noPanic ?_
            refine wp_region_held_drew (S := fun W' => W'.cell? ⟨g, 0, none⟩ = some (.int .i64 (d : Int)) ∧ W'.cell? ⟨w.heap.size, i, none⟩ = some (.string X)) (by kernel_rfl) ⟨n0, ph⟩ (fun _ => ?_)
            refine wpAnyH_take (i := 0) (v := ?va1_3) (by simp only [List.getElem?_toArray, List.getElem?_cons_zero]; exact rfl) (by kernel_rfl) (by kernel_rfl) (by kernel_rfl) (fun _ _ _ h => h) (Or.inl ⟨by rfl, ?ya1_3⟩) ⟨n0, ph⟩ ?ra1_3
            case ya1_3 =>
              intro w' hS
              obtain ⟨s1, s2⟩ := hS
              go_simp
              try with_reducible rfl
            case ra1_3 =>
            simp only [Act.put, List.setIfInBounds_toArray, List.set_cons_zero, List.set_cons_succ]
            refine wpAnyH_take (i := 1) (v := ?va2_3) (by simp only [List.getElem?_toArray, List.getElem?_cons_zero, List.getElem?_cons_succ]; exact rfl) (by kernel_rfl) (by kernel_rfl) (by kernel_rfl) (fun _ _ _ h => h) (Or.inl ⟨by rfl, ?ya2_3⟩) ⟨n0, ph⟩ ?ra2_3
            case ya2_3 =>
              intro w' hS
              obtain ⟨s1, s2⟩ := hS
              go_simp
              try with_reducible rfl
            case ra2_3 =>
            simp only [Act.put, List.setIfInBounds_toArray, List.set_cons_zero, List.set_cons_succ]
            refine wpAnyH_take (i := 2) (v := ?va3_3) (by simp only [List.getElem?_toArray, List.getElem?_cons_zero, List.getElem?_cons_succ]; exact rfl) (by kernel_rfl) (by kernel_rfl) (by kernel_rfl) (fun _ _ _ h => h) (Or.inl ⟨by rfl, ?ya3_3⟩) ⟨n0, ph⟩ ?ra3_3
            case ya3_3 =>
              intro w' hS
              obtain ⟨s1, s2⟩ := hS
              go_simp
              try with_reducible rfl
            case ra3_3 =>
            simp only [Act.put, List.setIfInBounds_toArray, List.set_cons_zero, List.set_cons_succ]
            refine wpAnyH_take (i := 3) (v := ?va4_3) (by simp only [List.getElem?_toArray, List.getElem?_cons_zero, List.getElem?_cons_succ]; exact rfl) (by kernel_rfl) (by kernel_rfl) (by kernel_rfl) (fun _ _ _ h => h) (Or.inl ⟨by rfl, ?ya4_3⟩) ⟨n0, ph⟩ ?ra4_3
            case ya4_3 =>
              intro w' hS
              obtain ⟨s1, s2⟩ := hS
              go_simp
              try with_reducible rfl
            case ra4_3 =>
            simp only [Act.put, List.setIfInBounds_toArray, List.set_cons_zero, List.set_cons_succ]
            refine wpAnyH_take (i := 4) (v := ?va5_3) (by simp only [List.getElem?_toArray, List.getElem?_cons_zero, List.getElem?_cons_succ]; exact rfl) (by kernel_rfl) (by kernel_rfl) (by kernel_rfl) (fun _ _ _ h => h) (Or.inl ⟨by rfl, ?ya5_3⟩) ⟨n0, ph⟩ ?ra5_3
            case ya5_3 =>
              intro w' hS
              obtain ⟨s1, s2⟩ := hS
              go_simp
              try with_reducible rfl
            case ra5_3 =>
            simp only [Act.put, List.setIfInBounds_toArray, List.set_cons_zero, List.set_cons_succ]
            refine wpAnyH_take (i := 6) (v := ?va6_3) (by simp only [List.getElem?_toArray, List.getElem?_cons_zero, List.getElem?_cons_succ]; exact rfl) (by kernel_rfl) (by kernel_rfl) (by kernel_rfl) (fun _ _ _ h => h) (Or.inl ⟨by rfl, ?ya6_3⟩) ⟨n0, ph⟩ ?ra6_3
            case ya6_3 =>
              intro w' hS
              obtain ⟨s1, s2⟩ := hS
              go_simp
              try with_reducible rfl
            case ra6_3 =>
            simp only [Act.put, List.setIfInBounds_toArray, List.set_cons_zero, List.set_cons_succ]
            refine wpAnyH_take (i := 7) (v := ?va7_3) (by simp only [List.getElem?_toArray, List.getElem?_cons_zero, List.getElem?_cons_succ]; exact rfl) (by kernel_rfl) (by kernel_rfl) (by kernel_rfl) (fun _ _ _ h => h) (Or.inl ⟨by rfl, ?ya7_3⟩) ⟨n0, ph⟩ ?ra7_3
            case ya7_3 =>
              intro w' hS
              obtain ⟨s1, s2⟩ := hS
              go_simp
              try with_reducible rfl
            case ra7_3 =>
            simp only [Act.put, List.setIfInBounds_toArray, List.set_cons_zero, List.set_cons_succ]
            refine wpAnyH_take (i := 8) (v := ?va8_3) (by simp only [List.getElem?_toArray, List.getElem?_cons_zero, List.getElem?_cons_succ]; exact rfl) (by kernel_rfl) (by kernel_rfl) (by kernel_rfl) (fun _ _ _ h => h) (Or.inl ⟨by rfl, ?ya8_3⟩) ⟨n0, ph⟩ ?ra8_3
            case ya8_3 =>
              intro w' hS
              obtain ⟨s1, s2⟩ := hS
              go_simp
              try with_reducible rfl
            case ra8_3 =>
            simp only [Act.put, List.setIfInBounds_toArray, List.set_cons_zero, List.set_cons_succ]
            refine wpAnyH_take (i := 9) (v := ?va9_3) (by simp only [List.getElem?_toArray, List.getElem?_cons_zero, List.getElem?_cons_succ]; exact rfl) (by kernel_rfl) (by kernel_rfl) (by kernel_rfl) (fun _ _ _ h => h) (Or.inl ⟨by rfl, ?ya9_3⟩) ⟨n0, ph⟩ ?ra9_3
            case ya9_3 =>
              intro w' hS
              obtain ⟨s1, s2⟩ := hS
              go_simp
              try with_reducible rfl
            case ra9_3 =>
            simp only [Act.put, List.setIfInBounds_toArray, List.set_cons_zero, List.set_cons_succ]
            refine wpAnyH_take (i := 10) (v := ?va10_3) (by simp only [List.getElem?_toArray, List.getElem?_cons_zero, List.getElem?_cons_succ]; exact rfl) (by kernel_rfl) (by kernel_rfl) (by kernel_rfl) (fun _ _ _ h => h) (Or.inl ⟨by rfl, ?ya10_3⟩) ⟨n0, ph⟩ ?ra10_3
            case ya10_3 =>
              intro w' hS
              obtain ⟨s1, s2⟩ := hS
              go_simp
              try with_reducible rfl
            case ra10_3 =>
            simp only [Act.put, List.setIfInBounds_toArray, List.set_cons_zero, List.set_cons_succ]
            refine wpAnyH_take (i := 12) (v := ?va11_3) (by simp only [List.getElem?_toArray, List.getElem?_cons_zero, List.getElem?_cons_succ]; exact rfl) (by kernel_rfl) (by kernel_rfl) (by kernel_rfl) (fun _ _ _ h => h) (Or.inl ⟨by rfl, ?ya11_3⟩) ⟨n0, ph⟩ ?ra11_3
            case ya11_3 =>
              intro w' hS
              obtain ⟨s1, s2⟩ := hS
              go_simp
              try with_reducible rfl
            case ra11_3 =>
            simp only [Act.put, List.setIfInBounds_toArray, List.set_cons_zero, List.set_cons_succ]
            refine wpAnyH_ready (rs := [5]) (by kernel_rfl) (by simp) ?_
            refine AllReadyH.cons (by simp only [List.getElem?_toArray, List.getElem?_cons_zero, List.getElem?_cons_succ]; exact rfl) (fun K hK => ?_) AllReadyH.nil
            go_simp
            refine hK.out _ _ ⟨n0, ph⟩ (fun _ => ?_)
            clear hK K
            refine wpAnyH_take (i := 11) (v := ?va12_3) (by simp only [List.getElem?_toArray, List.getElem?_cons_zero, List.getElem?_cons_succ]; exact rfl) (by kernel_rfl) (by kernel_rfl) (by kernel_rfl) (fun _ _ _ h => h) (Or.inl ⟨by rfl, ?ya12_3⟩) ⟨n0, ph⟩ ?ra12_3
            case ya12_3 =>
              intro w' hS
              obtain ⟨s1, s2⟩ := hS
              go_simp
              try with_reducible rfl
            case ra12_3 =>
            simp only [Act.put, List.setIfInBounds_toArray, List.set_cons_zero, List.set_cons_succ]
            refine wpAnyH_take (i := 13) (v := ?va13_3) (by simp only [List.getElem?_toArray, List.getElem?_cons_zero, List.getElem?_cons_succ]; exact rfl) (by kernel_rfl) (by kernel_rfl) (by kernel_rfl) (fun _ _ _ h => h) (Or.inl ⟨by rfl, ?ya13_3⟩) ⟨n0, ph⟩ ?ra13_3
            case ya13_3 =>
              intro w' hS
              obtain ⟨s1, s2⟩ := hS
              go_simp
              try with_reducible rfl
            case ra13_3 =>
            simp only [Act.put, List.setIfInBounds_toArray, List.set_cons_zero, List.set_cons_succ]
            refine wpAnyH_take (i := 14) (v := ?va14_3) (by simp only [List.getElem?_toArray, List.getElem?_cons_zero, List.getElem?_cons_succ]; exact rfl) (by kernel_rfl) (by kernel_rfl) (by kernel_rfl) (fun _ _ _ h => h) (Or.inl ⟨by rfl, ?ya14_3⟩) ⟨n0, ph⟩ ?ra14_3
            case ya14_3 =>
              intro w' hS
              obtain ⟨s1, s2⟩ := hS
              go_simp
              try with_reducible rfl
            case ra14_3 =>
            simp only [Act.put, List.setIfInBounds_toArray, List.set_cons_zero, List.set_cons_succ]
            refine wpAnyH_ready (rs := [15]) (by kernel_rfl) (by simp) ?_
            refine AllReadyH.cons (by simp only [List.getElem?_toArray, List.getElem?_cons_zero, List.getElem?_cons_succ]; exact rfl) (fun K hK => ?_) AllReadyH.nil
            go_simp
            refine hK.out _ _ ⟨(cell_setB hneg.out).trans n0, (cell_setB hneh.out).trans ph⟩ (fun _ => ?_)
            clear hK K
            refine wpAnyH_done (by kernel_rfl) ?_ _
            refine NoPanic.normal ?_
            go_wp2_with fail
            go_roundw
            case rel =>
              obtain ⟨σ', H', f1, f2, f3, f4⟩ := (FINk.out (v + X.size + L) W4 (by rw [HV.out.1, HV.out.2]) HR5.out).out
              have e : ((v + X.size + L : Nat) : Int) = (v : Int) + (X.size : Int) + (L : Int) := by omega
              rw [e] at f2 f3 f4
              rw [wd]
              rw [wq1, wq2]
              exact ⟨i, _, σ', H', Nat.le_of_lt hin.out, rfl, rfl, f1, f2.of rfl, f3.of rfl, f4.drew⟩
            case measure =>
              rw [wd]
              simp [intOf]
        · have f1 : ¬ (i : Int) < (fn : Int) := by omega
          clear hfi
          have HK : Hid (Says L k0 ∧ k0 ≤ 4) := ⟨HK0.out.1, HK0.out.2.1⟩
          go_upto_region 16 with (go_at_call 33; refine HWd.out.mono ?_; rintro e w' ⟨rfl, hw'⟩; subst hw')
          have HLk := HLg k0 HK.out.1
          have hXs : (S (hdrL cl false t L k0)).size = 2 + k0 := by rw [S_size, hdrL_len]
          have FINk : Hid (∀ (v : Nat) (W : World), v = (BhSpM.shut σ d false).getD d 0 + (2 + k0) + L → SpR w W g n i (BhSpM.shut σ d false) (updH H i (hdrL cl false t L k0)) (d : Int) (cl : Int) false (t : Int) sb → Hid (∃ (σ' : List Nat) (H' : Nat → List UInt8), SpI n i D C T M B σ' H' ∧ NumB (W.setCell ⟨w.heap.size + 1, d, none⟩ (.int .i64 (v : Int))) (w.heap.size + 1) σ' ∧ TxtB (W.setCell ⟨w.heap.size + 1, d, none⟩ (.int .i64 (v : Int))) w.heap.size n i H' ∧ Below w.heap.size w (W.setCell ⟨w.heap.size + 1, d, none⟩ (.int .i64 (v : Int))))) := fun v W h1 h2 => FIN g k0 v W HK.out.1 HK.out.2 h1 h2
          have HTX : Hid (∀ W, SpR w W g n (i + 1) (BhSpM.shut σ d false) H (d : Int) (cl : Int) false (t : Int) sb → SpR w (W.setCell ⟨w.heap.size, i, none⟩ (.string (S (hdrL cl false t L k0)))) g n i (BhSpM.shut σ d false) (updH H i (hdrL cl false t L k0)) (d : Int) (cl : Int) false (t : Int) sb) := fun W h => h.txt hin.out _
          have HPH : Hid (updH H i (hdrL cl false t L k0) i = hdrL cl false t L k0) := if_pos rfl
          have hX : Hid (∃ X, X = S (hdrL cl false t L k0)) := ⟨_, rfl⟩
          obtain ⟨X, hX⟩ := hX.out
          rw [← hX] at HLk hXs HTX
          have HX : Hid (X = S (hdrL cl false t L k0)) := hX
          clear HLg FIN hX
          go_upto_region 17 with (go_at_call 34; refine (HLk _).out.mono ?_; rintro e w3 ⟨rfl, hb3⟩; have HR4 : Hid (SpR w w3 g n (i + 1) (BhSpM.shut σ d false) H (d : Int) (cl : Int) false (t : Int) sb) := HR3.out.of hb3; obtain ⟨vx, z1, z2⟩ := HR4.out.2.2.1.any i hin.out)
          have HR5 := HTX.out w3 HR4.out
          have HR5 : Hid (SpR w (w3.setCell ⟨w.heap.size, i, none⟩ (.string X)) g n i (BhSpM.shut σ d false) (updH H i (hdrL cl false t L k0)) (d : Int) (cl : Int) false (t : Int) sb) := HR5
          clear z1 z2 HR4 HTX x0 x1 x2 x3 x4
          generalize w3.setCell ⟨w.heap.size, i, none⟩ (.string X) = W4 at HR5 ⊢
          have n0 := HR5.out.node.1
          obtain ⟨p7, p8⟩ := HR5.out.2.1.at d HL.out.2.2.2.2.1
          have ph : W4.cell? ⟨w.heap.size, i, none⟩ = some (.string X) := by
            rw [HR5.out.2.2.1.at i (Nat.le_refl _) hin.out, HPH.out, HX.out]
          have hneg : Hid (g ≠ w.heap.size + 1) := by have := HR5.out.1; unfold Hid; omega
          have hneh : Hid (w.heap.size ≠ w.heap.size + 1) := by unfold Hid; omega
          have hvd : (BhSpM.shut σ d false).getD d 0 ≤ 67108864 := by rw [BhSpM.shut_at]; exact hv d
          obtain ⟨v, hvv⟩ : ∃ v, (BhSpM.shut σ d false).getD d 0 = v := ⟨_, rfl⟩
          rw [hvv] at p7 hvd
          have HV : Hid ((BhSpM.shut σ d false).getD d 0 = v ∧ X.size = 2 + k0) := ⟨hvv, hXs⟩
          have wq := wr_three v X.size L hvd (by rw [hXs]; have := HK.out.2; omega) HL.out.2.1
          obtain ⟨wq1, wq2⟩ := wq
          clear hvv hvd hXs hv
          refine wp_region_noPanic ?_
          refine wp_region_held_drew (S := fun W' => W'.cell? ⟨g, 0, none⟩ = some (.int .i64 (d : Int)) ∧ W'.cell? ⟨w.heap.size, i, none⟩ = some (.string X)) (by kernel_rfl) ⟨n0, ph⟩ (fun _ => ?_)
          refine wpAnyH_take (i := 0) (v := ?va1_4) (by simp only [List.getElem?_toArray, List.getElem?_cons_zero]; exact rfl) (by kernel_rfl) (by kernel_rfl) (by kernel_rfl) (fun _ _ _ h => h) (Or.inl ⟨by rfl, ?ya1_4⟩) ⟨n0, ph⟩ ?ra1_4
          case ya1_4 =>
            intro w' hS
            obtain ⟨s1, s2⟩ := hS
            go_simp
            try with_reducible rfl
          case ra1_4 =>
          simp only [Act.put, List.setIfInBounds_toArray, List.set_cons_zero, List.set_cons_succ]
          refine wpAnyH_take (i := 1) (v := ?va2_4) (by simp only [List.getElem?_toArray, List.getElem?_cons_zero, List.getElem?_cons_succ]; exact rfl) (by kernel_rfl) (by kernel_rfl) (by kernel_rfl) (fun _ _ _ h => h) (Or.inl ⟨by rfl, ?ya2_4⟩) ⟨n0, ph⟩ ?ra2_4
          case ya2_4 =>
            intro w' hS
            obtain ⟨s1, s2⟩ := hS
            go_simp
            try with_reducible rfl
          case ra2_4 =>
          simp only [Act.put, List.setIfInBounds_toArray, List.set_cons_zero, List.set_cons_succ]
          refine wpAnyH_take (i := 2) (v := ?va3_4) (by simp only [List.getElem?_toArray, List.getElem?_cons_zero, List.getElem?_cons_succ]; exact rfl) (by kernel_rfl) (by kernel_rfl) (by kernel_rfl) (fun _ _ _ h => h) (Or.inl ⟨by rfl, ?ya3_4⟩) ⟨n0, ph⟩ ?ra3_4
          case ya3_4 =>
            intro w' hS
            obtain ⟨s1, s2⟩ := hS
            go_simp
            try with_reducible rfl
          case ra3_4 =>
          simp only [Act.put, List.setIfInBounds_toArray, List.set_cons_zero, List.set_cons_succ]
          refine wpAnyH_take (i := 3) (v := ?va4_4) (by simp only [List.getElem?_toArray, List.getElem?_cons_zero, List.getElem?_cons_succ]; exact rfl) (by kernel_rfl) (by kernel_rfl) (by kernel_rfl) (fun _ _ _ h => h) (Or.inl ⟨by rfl, ?ya4_4⟩) ⟨n0, ph⟩ ?ra4_4
          case ya4_4 =>
            intro w' hS
            obtain ⟨s1, s2⟩ := hS
            go_simp
            try with_reducible rfl
          case ra4_4 =>
          simp only [Act.put, List.setIfInBounds_toArray, List.set_cons_zero, List.set_cons_succ]
          refine wpAnyH_take (i := 4) (v := ?va5_4) (by simp only [List.getElem?_toArray, List.getElem?_cons_zero, List.getElem?_cons_succ]; exact rfl) (by kernel_rfl) (by kernel_rfl) (by kernel_rfl) (fun _ _ _ h => h) (Or.inl ⟨by rfl, ?ya5_4⟩) ⟨n0, ph⟩ ?ra5_4
          case ya5_4 =>
            intro w' hS
            obtain ⟨s1, s2⟩ := hS
            go_simp
            try with_reducible rfl
          case ra5_4 =>
          simp only [Act.put, List.setIfInBounds_toArray, List.set_cons_zero, List.set_cons_succ]
          refine wpAnyH_take (i := 6) (v := ?va6_4) (by simp only [List.getElem?_toArray, List.getElem?_cons_zero, List.getElem?_cons_succ]; exact rfl) (by kernel_rfl) (by kernel_rfl) (by kernel_rfl) (fun _ _ _ h => h) (Or.inl ⟨by rfl, ?ya6_4⟩) ⟨n0, ph⟩ ?ra6_4
          case ya6_4 =>
            intro w' hS
            obtain ⟨s1, s2⟩ := hS
            go_simp
            try with_reducible rfl
          case ra6_4 =>
          simp only [Act.put, List.setIfInBounds_toArray, List.set_cons_zero, List.set_cons_succ]
          refine wpAnyH_take (i := 7) (v := ?va7_4) (by simp only [List.getElem?_toArray, List.getElem?_cons_zero, List.getElem?_cons_succ]; exact rfl) (by kernel_rfl) (by kernel_rfl) (by kernel_rfl) (fun _ _ _ h => h) (Or.inl ⟨by rfl, ?ya7_4⟩) ⟨n0, ph⟩ ?ra7_4
          case ya7_4 =>
            intro w' hS
            obtain ⟨s1, s2⟩ := hS
            go_simp
            try with_reducible rfl
          case ra7_4 =>
          simp only [Act.put, List.setIfInBounds_toArray, List.set_cons_zero, List.set_cons_succ]
          refine wpAnyH_take (i := 8) (v := ?va8_4) (by simp only [List.getElem?_toArray, List.getElem?_cons_zero, List.getElem?_cons_succ]; exact rfl) (by kernel_rfl) (by kernel_rfl) (by kernel_rfl) (fun _ _ _ h => h) (Or.inl ⟨by rfl, ?ya8_4⟩) ⟨n0, ph⟩ ?ra8_4
          case ya8_4 =>
            intro w' hS
            obtain ⟨s1, s2⟩ := hS
            go_simp
            try with_reducible rfl
          case ra8_4 =>
          simp only [Act.put, List.setIfInBounds_toArray, List.set_cons_zero, List.set_cons_succ]
          refine wpAnyH_take (i := 9) (v := ?va9_4) (by simp only [List.getElem?_toArray, List.getElem?_cons_zero, List.getElem?_cons_succ]; exact rfl) (by kernel_rfl) (by kernel_rfl) (by kernel_rfl) (fun _ _ _ h => h) (Or.inl ⟨by rfl, ?ya9_4⟩) ⟨n0, ph⟩ ?ra9_4
          case ya9_4 =>
            intro w' hS
            obtain ⟨s1, s2⟩ := hS
            go_simp
            try with_reducible rfl
          case ra9_4 =>
          simp only [Act.put, List.setIfInBounds_toArray, List.set_cons_zero, List.set_cons_succ]
          refine wpAnyH_take (i := 10) (v := ?va10_4) (by simp only [List.getElem?_toArray, List.getElem?_cons_zero, List.getElem?_cons_succ]; exact rfl) (by kernel_rfl) (by kernel_rfl) (by kernel_rfl) (fun _ _ _ h => h) (Or.inl ⟨by rfl, ?ya10_4⟩) ⟨n0, ph⟩ ?ra10_4
          case ya10_4 =>
            intro w' hS
            obtain ⟨s1, s2⟩ := hS
            go_simp
            try with_reducible rfl
          case ra10_4 =>
          simp only [Act.put, List.setIfInBounds_toArray, List.set_cons_zero, List.set_cons_succ]
          refine wpAnyH_take (i := 12) (v := ?va11_4) (by simp only [List.getElem?_toArray, List.getElem?_cons_zero, List.getElem?_cons_succ]; exact rfl) (by kernel_rfl) (by kernel_rfl) (by kernel_rfl) (fun _ _ _ h => h) (Or.inl ⟨by rfl, ?ya11_4⟩) ⟨n0, ph⟩ ?ra11_4
          case ya11_4 =>
            intro w' hS
            obtain ⟨s1, s2⟩ := hS
            go_simp
            try with_reducible rfl
          case ra11_4 =>
          simp only [Act.put, List.setIfInBounds_toArray, List.set_cons_zero, List.set_cons_succ]
          refine wpAnyH_ready (rs := [5]) (by kernel_rfl) (by simp) ?_
          refine AllReadyH.cons (by simp only [List.getElem?_toArray, List.getElem?_cons_zero, List.getElem?_cons_succ]; exact rfl) (fun K hK => ?_) AllReadyH.nil
          go_simp
          refine hK.out _ _ ⟨n0, ph⟩ (fun _ => ?_)
          clear hK K
          refine wpAnyH_take (i := 11) (v := ?va12_4) (by simp only [List.getElem?_toArray, List.getElem?_cons_zero, List.getElem?_cons_succ]; exact rfl) (by kernel_rfl) (by kernel_rfl) (by kernel_rfl) (fun _ _ _ h => h) (Or.inl ⟨by rfl, ?ya12_4⟩) ⟨n0, ph⟩ ?ra12_4
          case ya12_4 =>
            intro w' hS
            obtain ⟨s1, s2⟩ := hS
            go_simp
            try with_reducible rfl
          case ra12_4 =>
          simp only [Act.put, List.setIfInBounds_toArray, List.set_cons_zero, List.set_cons_succ]
          refine wpAnyH_take (i := 13) (v := ?va13_4) (by simp only [List.getElem?_toArray, List.getElem?_cons_zero, List.getElem?_cons_succ]; exact rfl) (by kernel_rfl) (by kernel_rfl) (by kernel_rfl) (fun _ _ _ h => h) (Or.inl ⟨by rfl, ?ya13_4⟩) ⟨n0, ph⟩ ?ra13_4
          case ya13_4 =>
            intro w' hS
            obtain ⟨s1, s2⟩ := hS
            go_simp
            try with_reducible rfl
          case ra13_4 =>
          simp only [Act.put, List.setIfInBounds_toArray, List.set_cons_zero, List.set_cons_succ]
          refine wpAnyH_take (i := 14) (v := ?va14_4) (by simp only [List.getElem?_toArray, List.getElem?_cons_zero, List.getElem?_cons_succ]; exact rfl) (by kernel_rfl) (by kernel_rfl) (by kernel_rfl) (fun _ _ _ h => h) (Or.inl ⟨by rfl, ?ya14_4⟩) ⟨n0, ph⟩ ?ra14_4
          case ya14_4 =>
            intro w' hS
            obtain ⟨s1, s2⟩ := hS
            go_simp
            try with_reducible rfl
          case ra14_4 =>
          simp only [Act.put, List.setIfInBounds_toArray, List.set_cons_zero, List.set_cons_succ]
          refine wpAnyH_ready (rs := [15]) (by kernel_rfl) (by simp) ?_
          refine AllReadyH.cons (by simp only [List.getElem?_toArray, List.getElem?_cons_zero, List.getElem?_cons_succ]; exact rfl) (fun K hK => ?_) AllReadyH.nil
          go_simp
          refine hK.out _ _ ⟨(cell_setB hneg.out).trans n0, (cell_setB hneh.out).trans ph⟩ (fun _ => ?_)
          clear hK K
          refine wpAnyH_done (by kernel_rfl) ?_ _
          refine NoPanic.normal ?_
          go_wp2_with fail
          go_roundw
          case rel =>
            obtain ⟨σ', H', f1, f2, f3, f4⟩ := (FINk.out (v + X.size + L) W4 (by rw [HV.out.1, HV.out.2]) HR5.out).out
            have e : ((v + X.size + L : Nat) : Int) = (v : Int) + (X.size : Int) + (L : Int) := by omega
            rw [e] at f2 f3 f4
            rw [wd]
            rw [wq1, wq2]
            exact ⟨i, _, σ', H', Nat.le_of_lt hin.out, rfl, rfl, f1, f2.of rfl, f3.of rfl, f4.drew⟩
          case measure =>
            rw [wd]
            simp [intOf]
      · rw [← HLm.out.1 rfl] at y2
        go_upto_region 12 with fail
        have HR3 : Hid (SpR w (W1.setCell ⟨w.heap.size + 1, d + 1, none⟩ (.int .i64 0)) g n (i + 1) (BhSpM.shut σ d true) H (d : Int) (cl : Int) true (t : Int) sb) := HR2.out _ (fun h => by cases h) (fun _ => rfl)
        clear HR2 x0 x1 x2 x3 x4 y2 y3
        generalize W1.setCell ⟨w.heap.size + 1, d + 1, none⟩ (.int .i64 0) = W2 at HR3 ⊢
        obtain ⟨x0, x1, x2, x3, x4⟩ := HR3.out.node
        have HWd : Hid (Calls Try.prog 33 #[.int .i64 (L : Int)] W2 fun e w' => e = .returned (.int .i64 (ll L : Int)) ∧ W2 = w') := (wide_any L W2).mono (by rintro e w' ⟨h1, h2⟩; exact ⟨h1, h2.symm⟩)
        have HK0 : Hid (Says L (ll L) ∧ ll L ≤ 4 ∧ ∀ k, ll L < k → k ≤ 4 → Says L k) := ⟨says_wide L (by have := HL.out.2.1; omega), ll_le L, says_more L⟩
        generalize ll L = k0 at HWd HK0
        by_cases hfi : i < fn
        · obtain ⟨fb, fo, rfl, c5⟩ := (HG.out.2.1.below HR3.out.2.2.2.2) i hfi
          have f1 : (i : Int) < (fn : Int) := Int.ofNat_lt.2 hfi
          obtain ⟨fv, hfv⟩ : ∃ v, F i = v := ⟨_, rfl⟩
          rw [hfv] at c5
          clear hfv hfi
          by_cases q1 : (k0 : Int) < fv
          · by_cases q2 : fv ≤ 4
            · obtain ⟨k1, rfl⟩ : ∃ k : Nat, fv = (k : Int) := ⟨fv.toNat, by omega⟩
              have HK : Hid (Says L k1 ∧ k1 ≤ 4) := ⟨HK0.out.2.2 k1 (by omega) (by omega), by omega⟩
              go_upto_region 16 with (go_at_call 33; refine HWd.out.mono ?_; rintro e w' ⟨rfl, hw'⟩; subst hw')
              have HLk := HLg k1 HK.out.1
              have hXs : (S (hdrL cl true t L k1)).size = 2 + k1 := by rw [S_size, hdrL_len]
              have FINk : Hid (∀ (v : Nat) (W : World), v = (BhSpM.shut σ d true).getD d 0 + (2 + k1) + L → SpR w W g n i (BhSpM.shut σ d true) (updH H i (hdrL cl true t L k1)) (d : Int) (cl : Int) true (t : Int) sb → Hid (∃ (σ' : List Nat) (H' : Nat → List UInt8), SpI n i D C T M B σ' H' ∧ NumB (W.setCell ⟨w.heap.size + 1, d, none⟩ (.int .i64 (v : Int))) (w.heap.size + 1) σ' ∧ TxtB (W.setCell ⟨w.heap.size + 1, d, none⟩ (.int .i64 (v : Int))) w.heap.size n i H' ∧ Below w.heap.size w (W.setCell ⟨w.heap.size + 1, d, none⟩ (.int .i64 (v : Int))))) := fun v W h1 h2 => FIN g k1 v W HK.out.1 HK.out.2 h1 h2
              have HTX : Hid (∀ W, SpR w W g n (i + 1) (BhSpM.shut σ d true) H (d : Int) (cl : Int) true (t : Int) sb → SpR w (W.setCell ⟨w.heap.size, i, none⟩ (.string (S (hdrL cl true t L k1)))) g n i (BhSpM.shut σ d true) (updH H i (hdrL cl true t L k1)) (d : Int) (cl : Int) true (t : Int) sb) := fun W h => h.txt hin.out _
              have HPH : Hid (updH H i (hdrL cl true t L k1) i = hdrL cl true t L k1) := if_pos rfl
              have hX : Hid (∃ X, X = S (hdrL cl true t L k1)) := ⟨_, rfl⟩
              obtain ⟨X, hX⟩ := hX.out
              rw [← hX] at HLk hXs HTX
              have HX : Hid (X = S (hdrL cl true t L k1)) := hX
              clear HLg FIN hX
              go_upto_region 17 with (go_at_call 34; refine (HLk _).out.mono ?_; rintro e w3 ⟨rfl, hb3⟩; have HR4 : Hid (SpR w w3 g n (i + 1) (BhSpM.shut σ d true) H (d : Int) (cl : Int) true (t : Int) sb) := HR3.out.of hb3; obtain ⟨vx, z1, z2⟩ := HR4.out.2.2.1.any i hin.out)
              have HR5 := HTX.out w3 HR4.out
              have HR5 : Hid (SpR w (w3.setCell ⟨w.heap.size, i, none⟩ (.string X)) g n i (BhSpM.shut σ d true) (updH H i (hdrL cl true t L k1)) (d : Int) (cl : Int) true (t : Int) sb) := HR5
              clear z1 z2 HR4 HTX x0 x1 x2 x3 x4
              generalize w3.setCell ⟨w.heap.size, i, none⟩ (.string X) = W4 at HR5 ⊢
              have n0 := HR5.out.node.1
              obtain ⟨p7, p8⟩ := HR5.out.2.1.at d HL.out.2.2.2.2.1
              have ph : W4.cell? ⟨w.heap.size, i, none⟩ = some (.string X) := by
                rw [HR5.out.2.2.1.at i (Nat.le_refl _) hin.out, HPH.out, HX.out]
              have hneg : Hid (g ≠ w.heap.size + 1) := by have := HR5.out.1; unfold Hid; omega
              have hneh : Hid (w.heap.size ≠ w.heap.size + 1) := by unfold Hid; omega
              have hvd : (BhSpM.shut σ d true).getD d 0 ≤ 67108864 := by rw [BhSpM.shut_at]; exact hv d
              obtain ⟨v, hvv⟩ : ∃ v, (BhSpM.shut σ d true).getD d 0 = v := ⟨_, rfl⟩
              rw [hvv] at p7 hvd
              have HV : Hid ((BhSpM.shut σ d true).getD d 0 = v ∧ X.size = 2 + k1) := ⟨hvv, hXs⟩
              have wq := wr_three v X.size L hvd (by rw [hXs]; have := HK.out.2; omega) HL.out.2.1
              obtain ⟨wq1, wq2⟩ := wq
              clear hvv hvd hXs hv
              refine wp_region_noPanic ?_
              refine wp_region_held_drew (S := fun W' => W'.cell? ⟨g, 0, none⟩ = some (.int .i64 (d : Int)) ∧ W'.cell? ⟨w.heap.size, i, none⟩ = some (.string X)) (by kernel_rfl) ⟨n0, ph⟩ (fun _ => ?_)
              refine wpAnyH_take (i := 0) (v := ?va1_5) (by simp only [List.getElem?_toArray, List.getElem?_cons_zero]; exact rfl) (by kernel_rfl) (by kernel_rfl) (by kernel_rfl) (fun _ _ _ h => h) (Or.inl ⟨by rfl, ?ya1_5⟩) ⟨n0, ph⟩ ?ra1_5
              case ya1_5 =>
                intro w' hS
                obtain ⟨s1, s2⟩ := hS
                go_simp
                try with_reducible rfl
              case ra1_5 =>
              simp only [Act.put, List.setIfInBounds_toArray, List.set_cons_zero, List.set_cons_succ]
              refine wpAnyH_take (i := 1) (v := ?va2_5) (by simp only [List.getElem?_toArray, List.getElem?_cons_zero, List.getElem?_cons_succ]; exact rfl) (by kernel_rfl) (by kernel_rfl) (by kernel_rfl) (fun _ _ _ h => h) (Or.inl ⟨by rfl, ?ya2_5⟩) ⟨n0, ph⟩ ?ra2_5
              case ya2_5 =>
                intro w' hS
                obtain ⟨s1, s2⟩ := hS
                go_simp
                try with_reducible rfl
              case ra2_5 =>
              simp only [Act.put, List.setIfInBounds_toArray, List.set_cons_zero, List.set_cons_succ]
              refine wpAnyH_take (i := 2) (v := ?va3_5) (by simp only [List.getElem?_toArray, List.getElem?_cons_zero, List.getElem?_cons_succ]; exact rfl) (by kernel_rfl) (by kernel_rfl) (by kernel_rfl) (fun _ _ _ h => h) (Or.inl ⟨by rfl, ?ya3_5⟩) ⟨n0, ph⟩ ?ra3_5
              case ya3_5 =>
                intro w' hS
                obtain ⟨s1, s2⟩ := hS
                go_simp
                try with_reducible rfl
              case ra3_5 =>
              simp only [Act.put, List.setIfInBounds_toArray, List.set_cons_zero, List.set_cons_succ]
              refine wpAnyH_take (i := 3) (v := ?va4_5) (by simp only [List.getElem?_toArray, List.getElem?_cons_zero, List.getElem?_cons_succ]; exact rfl) (by kernel_rfl) (by kernel_rfl) (by kernel_rfl) (fun _ _ _ h => h) (Or.inl ⟨by rfl, ?ya4_5⟩) ⟨n0, ph⟩ ?ra4_5
              case ya4_5 =>
                intro w' hS
                obtain ⟨s1, s2⟩ := hS
                go_simp
                try with_reducible rfl
              case ra4_5 =>
              simp only [Act.put, List.setIfInBounds_toArray, List.set_cons_zero, List.set_cons_succ]
              refine wpAnyH_take (i := 4) (v := ?va5_5) (by simp only [List.getElem?_toArray, List.getElem?_cons_zero, List.getElem?_cons_succ]; exact rfl) (by kernel_rfl) (by kernel_rfl) (by kernel_rfl) (fun _ _ _ h => h) (Or.inl ⟨by rfl, ?ya5_5⟩) ⟨n0, ph⟩ ?ra5_5
              case ya5_5 =>
                intro w' hS
                obtain ⟨s1, s2⟩ := hS
                go_simp
                try with_reducible rfl
              case ra5_5 =>
              simp only [Act.put, List.setIfInBounds_toArray, List.set_cons_zero, List.set_cons_succ]
              refine wpAnyH_take (i := 6) (v := ?va6_5) (by simp only [List.getElem?_toArray, List.getElem?_cons_zero, List.getElem?_cons_succ]; exact rfl) (by kernel_rfl) (by kernel_rfl) (by kernel_rfl) (fun _ _ _ h => h) (Or.inl ⟨by rfl, ?ya6_5⟩) ⟨n0, ph⟩ ?ra6_5
              case ya6_5 =>
                intro w' hS
                obtain ⟨s1, s2⟩ := hS
                go_simp
                try with_reducible rfl
              case ra6_5 =>
              simp only [Act.put, List.setIfInBounds_toArray, List.set_cons_zero, List.set_cons_succ]
              refine wpAnyH_take (i := 7) (v := ?va7_5) (by simp only [List.getElem?_toArray, List.getElem?_cons_zero, List.getElem?_cons_succ]; exact rfl) (by kernel_rfl) (by kernel_rfl) (by kernel_rfl) (fun _ _ _ h => h) (Or.inl ⟨by rfl, ?ya7_5⟩) ⟨n0, ph⟩ ?ra7_5
              case ya7_5 =>
                intro w' hS
                obtain ⟨s1, s2⟩ := hS
                go_simp
                try with_reducible rfl
              case ra7_5 =>
              simp only [Act.put, List.setIfInBounds_toArray, List.set_cons_zero, List.set_cons_succ]
              refine wpAnyH_take (i := 8) (v := ?va8_5) (by simp only [List.getElem?_toArray, List.getElem?_cons_zero, List.getElem?_cons_succ]; exact rfl) (by kernel_rfl) (by kernel_rfl) (by kernel_rfl) (fun _ _ _ h => h) (Or.inl ⟨by rfl, ?ya8_5⟩) ⟨n0, ph⟩ ?ra8_5
              case ya8_5 =>
                intro w' hS
                obtain ⟨s1, s2⟩ := hS
                go_simp
                try with_reducible rfl
              case ra8_5 =>
              simp only [Act.put, List.setIfInBounds_toArray, List.set_cons_zero, List.set_cons_succ]
              refine wpAnyH_take (i := 9) (v := ?va9_5) (by simp only [List.getElem?_toArray, List.getElem?_cons_zero, List.getElem?_cons_succ]; exact rfl) (by kernel_rfl) (by kernel_rfl) (by kernel_rfl) (fun _ _ _ h => h) (Or.inl ⟨by rfl, ?ya9_5⟩) ⟨n0, ph⟩ ?ra9_5
              case ya9_5 =>
                intro w' hS
                obtain ⟨s1, s2⟩ := hS
                go_simp
                try with_reducible rfl
              case ra9_5 =>
              simp only [Act.put, List.setIfInBounds_toArray, List.set_cons_zero, List.set_cons_succ]
              refine wpAnyH_take (i := 10) (v := ?va10_5) (by simp only [List.getElem?_toArray, List.getElem?_cons_zero, List.getElem?_cons_succ]; exact rfl) (by kernel_rfl) (by kernel_rfl) (by kernel_rfl) (fun _ _ _ h => h) (Or.inl ⟨by rfl, ?ya10_5⟩) ⟨n0, ph⟩ ?ra10_5
              case ya10_5 =>
                intro w' hS
                obtain ⟨s1, s2⟩ := hS
                go_simp
                try with_reducible rfl
              case ra10_5 =>
              simp only [Act.put, List.setIfInBounds_toArray, List.set_cons_zero, List.set_cons_succ]
              refine wpAnyH_take (i := 12) (v := ?va11_5) (by simp only [List.getElem?_toArray, List.getElem?_cons_zero, List.getElem?_cons_succ]; exact rfl) (by kernel_rfl) (by kernel_rfl) (by kernel_rfl) (fun _ _ _ h => h) (Or.inl ⟨by rfl, ?ya11_5⟩) ⟨n0, ph⟩ ?ra11_5
              case ya11_5 =>
                intro w' hS
                obtain ⟨s1, s2⟩ := hS
                go_simp
                try with_reducible rfl
              case ra11_5 =>
              simp only [Act.put, List.setIfInBounds_toArray, List.set_cons_zero, List.set_cons_succ]
              refine wpAnyH_ready (rs := [5]) (by kernel_rfl) (by simp) ?_
              refine AllReadyH.cons (by simp only [List.getElem?_toArray, List.getElem?_cons_zero, List.getElem?_cons_succ]; exact rfl) (fun K hK => ?_) AllReadyH.nil
              go_simp
              refine hK.out _ _ ⟨n0, ph⟩ (fun _ => ?_)
              clear hK K
              refine wpAnyH_take (i := 11) (v := ?va12_5) (by simp only [List.getElem?_toArray, List.getElem?_cons_zero, List.getElem?_cons_succ]; exact rfl) (by kernel_rfl) (by kernel_rfl) (by kernel_rfl) (fun _ _ _ h => h) (Or.inl ⟨by rfl, ?ya12_5⟩) ⟨n0, ph⟩ ?ra12_5
              case ya12_5 =>
                intro w' hS
                obtain ⟨s1, s2⟩ := hS
                go_simp
                try with_reducible rfl
              case ra12_5 =>
              simp only [Act.put, List.setIfInBounds_toArray, List.set_cons_zero, List.set_cons_succ]
              refine wpAnyH_take (i := 13) (v := ?va13_5) (by simp only [List.getElem?_toArray, List.getElem?_cons_zero, List.getElem?_cons_succ]; exact rfl) (by kernel_rfl) (by kernel_rfl) (by kernel_rfl) (fun _ _ _ h => h) (Or.inl ⟨by rfl, ?ya13_5⟩) ⟨n0, ph⟩ ?ra13_5
              case ya13_5 =>
                intro w' hS
                obtain ⟨s1, s2⟩ := hS
                go_simp
                try with_reducible rfl
              case ra13_5 =>
              simp only [Act.put, List.setIfInBounds_toArray, List.set_cons_zero, List.set_cons_succ]
              refine wpAnyH_take (i := 14) (v := ?va14_5) (by simp only [List.getElem?_toArray, List.getElem?_cons_zero, List.getElem?_cons_succ]; exact rfl) (by kernel_rfl) (by kernel_rfl) (by kernel_rfl) (fun _ _ _ h => h) (Or.inl ⟨by rfl, ?ya14_5⟩) ⟨n0, ph⟩ ?ra14_5
              case ya14_5 =>
                intro w' hS
                obtain ⟨s1, s2⟩ := hS
                go_simp
                try with_reducible rfl
              case ra14_5 =>
              simp only [Act.put, List.setIfInBounds_toArray, List.set_cons_zero, List.set_cons_succ]
              refine wpAnyH_ready (rs := [15]) (by kernel_rfl) (by simp) ?_
              refine AllReadyH.cons (by simp only [List.getElem?_toArray, List.getElem?_cons_zero, List.getElem?_cons_succ]; exact rfl) (fun K hK => ?_) AllReadyH.nil
              go_simp
              refine hK.out _ _ ⟨(cell_setB hneg.out).trans n0, (cell_setB hneh.out).trans ph⟩ (fun _ => ?_)
              clear hK K
              refine wpAnyH_done (by kernel_rfl) ?_ _
              refine NoPanic.normal ?_
              go_wp2_with fail
              go_roundw
              case rel =>
                obtain ⟨σ', H', f1, f2, f3, f4⟩ := (FINk.out (v + X.size + L) W4 (by rw [HV.out.1, HV.out.2]) HR5.out).out
                have e : ((v + X.size + L : Nat) : Int) = (v : Int) + (X.size : Int) + (L : Int) := by omega
                rw [e] at f2 f3 f4
                rw [wd]
                rw [wq1, wq2]
                exact ⟨i, _, σ', H', Nat.le_of_lt hin.out, rfl, rfl, f1, f2.of rfl, f3.of rfl, f4.drew⟩
              case measure =>
                rw [wd]
                simp [intOf]
            · have HK : Hid (Says L k0 ∧ k0 ≤ 4) := ⟨HK0.out.1, HK0.out.2.1⟩
              go_upto_region 16 with (go_at_call 33; refine HWd.out.mono ?_; rintro e w' ⟨rfl, hw'⟩; subst hw')
              have HLk := HLg k0 HK.out.1
              have hXs : (S (hdrL cl true t L k0)).size = 2 + k0 := by rw [S_size, hdrL_len]
              have FINk : Hid (∀ (v : Nat) (W : World), v = (BhSpM.shut σ d true).getD d 0 + (2 + k0) + L → SpR w W g n i (BhSpM.shut σ d true) (updH H i (hdrL cl true t L k0)) (d : Int) (cl : Int) true (t : Int) sb → Hid (∃ (σ' : List Nat) (H' : Nat → List UInt8), SpI n i D C T M B σ' H' ∧ NumB (W.setCell ⟨w.heap.size + 1, d, none⟩ (.int .i64 (v : Int))) (w.heap.size + 1) σ' ∧ TxtB (W.setCell ⟨w.heap.size + 1, d, none⟩ (.int .i64 (v : Int))) w.heap.size n i H' ∧ Below w.heap.size w (W.setCell ⟨w.heap.size + 1, d, none⟩ (.int .i64 (v : Int))))) := fun v W h1 h2 => FIN g k0 v W HK.out.1 HK.out.2 h1 h2
              have HTX : Hid (∀ W, SpR w W g n (i + 1) (BhSpM.shut σ d true) H (d : Int) (cl : Int) true (t : Int) sb → SpR w (W.setCell ⟨w.heap.size, i, none⟩ (.string (S (hdrL cl true t L k0)))) g n i (BhSpM.shut σ d true) (updH H i (hdrL cl true t L k0)) (d : Int) (cl : Int) true (t : Int) sb) := fun W h => h.txt hin.out _
              have HPH : Hid (updH H i (hdrL cl true t L k0) i = hdrL cl true t L k0) := if_pos rfl
              have hX : Hid (∃ X, X = S (hdrL cl true t L k0)) := ⟨_, rfl⟩
              obtain ⟨X, hX⟩ := hX.out
              rw [← hX] at HLk hXs HTX
              have HX : Hid (X = S (hdrL cl true t L k0)) := hX
              clear HLg FIN hX
              go_upto_region 17 with (go_at_call 34; refine (HLk _).out.mono ?_; rintro e w3 ⟨rfl, hb3⟩; have HR4 : Hid (SpR w w3 g n (i + 1) (BhSpM.shut σ d true) H (d : Int) (cl : Int) true (t : Int) sb) := HR3.out.of hb3; obtain ⟨vx, z1, z2⟩ := HR4.out.2.2.1.any i hin.out)
              have HR5 := HTX.out w3 HR4.out
              have HR5 : Hid (SpR w (w3.setCell ⟨w.heap.size, i, none⟩ (.string X)) g n i (BhSpM.shut σ d true) (updH H i (hdrL cl true t L k0)) (d : Int) (cl : Int) true (t : Int) sb) := HR5
              clear z1 z2 HR4 HTX x0 x1 x2 x3 x4
              generalize w3.setCell ⟨w.heap.size, i, none⟩ (.string X) = W4 at HR5 ⊢
              have n0 := HR5.out.node.1
              obtain ⟨p7, p8⟩ := HR5.out.2.1.at d HL.out.2.2.2.2.1
              have ph : W4.cell? ⟨w.heap.size, i, none⟩ = some (.string X) := by
                rw [HR5.out.2.2.1.at i (Nat.le_refl _) hin.out, HPH.out, HX.out]
              have hneg : Hid (g ≠ w.heap.size + 1) := by have := HR5.out.1; unfold Hid; omega
              have hneh : Hid (w.heap.size ≠ w.heap.size + 1) := by unfold Hid; omega
              have hvd : (BhSpM.shut σ d true).getD d 0 ≤ 67108864 := by rw [BhSpM.shut_at]; exact hv d
              obtain ⟨v, hvv⟩ : ∃ v, (BhSpM.shut σ d true).getD d 0 = v := ⟨_, rfl⟩
              rw [hvv] at p7 hvd
              have HV : Hid ((BhSpM.shut σ d true).getD d 0 = v ∧ X.size = 2 + k0) := ⟨hvv, hXs⟩
              have wq := wr_three v X.size L hvd (by rw [hXs]; have := HK.out.2; omega) HL.out.2.1
              obtain ⟨wq1, wq2⟩ := wq
              clear hvv hvd hXs hv
              refine wp_region_noPanic ?_
              refine wp_region_held_drew (S := fun W' => W'.cell? ⟨g, 0, none⟩ = some (.int .i64 (d : Int)) ∧ W'.cell? ⟨w.heap.size, i, none⟩ = some (.string X)) (by kernel_rfl) ⟨n0, ph⟩ (fun _ => ?_)
              refine wpAnyH_take (i := 0) (v := ?va1_6) (by simp only [List.getElem?_toArray, List.getElem?_cons_zero]; exact rfl) (by kernel_rfl) (by kernel_rfl) (by kernel_rfl) (fun _ _ _ h => h) (Or.inl ⟨by rfl, ?ya1_6⟩) ⟨n0, ph⟩ ?ra1_6
              case ya1_6 =>
                intro w' hS
                obtain ⟨s1, s2⟩ := hS
                go_simp
                try with_reducible rfl
              case ra1_6 =>
              simp only [Act.put, List.setIfInBounds_toArray, List.set_cons_zero, List.set_cons_succ]
              refine wpAnyH_take (i := 1) (v := ?va2_6) (by simp only [List.getElem?_toArray, List.getElem?_cons_zero, List.getElem?_cons_succ]; exact rfl) (by kernel_rfl) (by kernel_rfl) (by kernel_rfl) (fun _ _ _ h => h) (Or.inl ⟨by rfl, ?ya2_6⟩) ⟨n0, ph⟩ ?ra2_6
              case ya2_6 =>
                intro w' hS
                obtain ⟨s1, s2⟩ := hS
                go_simp
                try with_reducible rfl
              case ra2_6 =>
              simp only [Act.put, List.setIfInBounds_toArray, List.set_cons_zero, List.set_cons_succ]
              refine wpAnyH_take (i := 2) (v := ?va3_6) (by simp only [List.getElem?_toArray, List.getElem?_cons_zero, List.getElem?_cons_succ]; exact rfl) (by kernel_rfl) (by kernel_rfl) (by kernel_rfl) (fun _ _ _ h => h) (Or.inl ⟨by rfl, ?ya3_6⟩) ⟨n0, ph⟩ ?ra3_6
              case ya3_6 =>
                intro w' hS
                obtain ⟨s1, s2⟩ := hS
                go_simp
                try with_reducible rfl
              case ra3_6 =>
              simp only [Act.put, List.setIfInBounds_toArray, List.set_cons_zero, List.set_cons_succ]
              refine wpAnyH_take (i := 3) (v := ?va4_6) (by simp only [List.getElem?_toArray, List.getElem?_cons_zero, List.getElem?_cons_succ]; exact rfl) (by kernel_rfl) (by kernel_rfl) (by kernel_rfl) (fun _ _ _ h => h) (Or.inl ⟨by rfl, ?ya4_6⟩) ⟨n0, ph⟩ ?ra4_6
              case ya4_6 =>
                intro w' hS
                obtain ⟨s1, s2⟩ := hS
                go_simp
                try with_reducible rfl
              case ra4_6 =>
              simp only [Act.put, List.setIfInBounds_toArray, List.set_cons_zero, List.set_cons_succ]
              refine wpAnyH_take (i := 4) (v := ?va5_6) (by simp only [List.getElem?_toArray, List.getElem?_cons_zero, List.getElem?_cons_succ]; exact rfl) (by kernel_rfl) (by kernel_rfl) (by kernel_rfl) (fun _ _ _ h => h) (Or.inl ⟨by rfl, ?ya5_6⟩) ⟨n0, ph⟩ ?ra5_6
              case ya5_6 =>
                intro w' hS
                obtain ⟨s1, s2⟩ := hS
                go_simp
                try with_reducible rfl
              case ra5_6 =>
              simp only [Act.put, List.setIfInBounds_toArray, List.set_cons_zero, List.set_cons_succ]
              refine wpAnyH_take (i := 6) (v := ?va6_6) (by simp only [List.getElem?_toArray, List.getElem?_cons_zero, List.getElem?_cons_succ]; exact rfl) (by kernel_rfl) (by kernel_rfl) (by kernel_rfl) (fun _ _ _ h => h) (Or.inl ⟨by rfl, ?ya6_6⟩) ⟨n0, ph⟩ ?ra6_6
              case ya6_6 =>
                intro w' hS
                obtain ⟨s1, s2⟩ := hS
                go_simp
                try with_reducible rfl
              case ra6_6 =>
              simp only [Act.put, List.setIfInBounds_toArray, List.set_cons_zero, List.set_cons_succ]
              refine wpAnyH_take (i := 7) (v := ?va7_6) (by simp only [List.getElem?_toArray, List.getElem?_cons_zero, List.getElem?_cons_succ]; exact rfl) (by kernel_rfl) (by kernel_rfl) (by kernel_rfl) (fun _ _ _ h => h) (Or.inl ⟨by rfl, ?ya7_6⟩) ⟨n0, ph⟩ ?ra7_6
              case ya7_6 =>
                intro w' hS
                obtain ⟨s1, s2⟩ := hS
                go_simp
                try with_reducible rfl
              case ra7_6 =>
              simp only [Act.put, List.setIfInBounds_toArray, List.set_cons_zero, List.set_cons_succ]
              refine wpAnyH_take (i := 8) (v := ?va8_6) (by simp only [List.getElem?_toArray, List.getElem?_cons_zero, List.getElem?_cons_succ]; exact rfl) (by kernel_rfl) (by kernel_rfl) (by kernel_rfl) (fun _ _ _ h => h) (Or.inl ⟨by rfl, ?ya8_6⟩) ⟨n0, ph⟩ ?ra8_6
              case ya8_6 =>
                intro w' hS
                obtain ⟨s1, s2⟩ := hS
                go_simp
                try with_reducible rfl
              case ra8_6 =>
              simp only [Act.put, List.setIfInBounds_toArray, List.set_cons_zero, List.set_cons_succ]
              refine wpAnyH_take (i := 9) (v := ?va9_6) (by simp only [List.getElem?_toArray, List.getElem?_cons_zero, List.getElem?_cons_succ]; exact rfl) (by kernel_rfl) (by kernel_rfl) (by kernel_rfl) (fun _ _ _ h => h) (Or.inl ⟨by rfl, ?ya9_6⟩) ⟨n0, ph⟩ ?ra9_6
              case ya9_6 =>
                intro w' hS
                obtain ⟨s1, s2⟩ := hS
                go_simp
                try with_reducible rfl
              case ra9_6 =>
              simp only [Act.put, List.setIfInBounds_toArray, List.set_cons_zero, List.set_cons_succ]
              refine wpAnyH_take (i := 10) (v := ?va10_6) (by simp only [List.getElem?_toArray, List.getElem?_cons_zero, List.getElem?_cons_succ]; exact rfl) (by kernel_rfl) (by kernel_rfl) (by kernel_rfl) (fun _ _ _ h => h) (Or.inl ⟨by rfl, ?ya10_6⟩) ⟨n0, ph⟩ ?ra10_6
              case ya10_6 =>
                intro w' hS
                obtain ⟨s1, s2⟩ := hS
                go_simp
                try with_reducible rfl
              case ra10_6 =>
              simp only [Act.put, List.setIfInBounds_toArray, List.set_cons_zero, List.set_cons_succ]
              refine wpAnyH_take (i := 12) (v := ?va11_6) (by simp only [List.getElem?_toArray, List.getElem?_cons_zero, List.getElem?_cons_succ]; exact rfl) (by kernel_rfl) (by kernel_rfl) (by kernel_rfl) (fun _ _ _ h => h) (Or.inl ⟨by rfl, ?ya11_6⟩) ⟨n0, ph⟩ ?ra11_6
              case ya11_6 =>
                intro w' hS
                obtain ⟨s1, s2⟩ := hS
                go_simp
                try with_reducible rfl
              case ra11_6 =>
              simp only [Act.put, List.setIfInBounds_toArray, List.set_cons_zero, List.set_cons_succ]
              refine wpAnyH_ready (rs := [5]) (by kernel_rfl) (by simp) ?_
              refine AllReadyH.cons (by simp only [List.getElem?_toArray, List.getElem?_cons_zero, List.getElem?_cons_succ]; exact rfl) (fun K hK => ?_) AllReadyH.nil
              go_simp
              refine hK.out _ _ ⟨n0, ph⟩ (fun _ => ?_)
              clear hK K
              refine wpAnyH_take (i := 11) (v := ?va12_6) (by simp only [List.getElem?_toArray, List.getElem?_cons_zero, List.getElem?_cons_succ]; exact rfl) (by kernel_rfl) (by kernel_rfl) (by kernel_rfl) (fun _ _ _ h => h) (Or.inl ⟨by rfl, ?ya12_6⟩) ⟨n0, ph⟩ ?ra12_6
              case ya12_6 =>
                intro w' hS
                obtain ⟨s1, s2⟩ := hS
                go_simp
                try with_reducible rfl
              case ra12_6 =>
              simp only [Act.put, List.setIfInBounds_toArray, List.set_cons_zero, List.set_cons_succ]
              refine wpAnyH_take (i := 13) (v := ?va13_6) (by simp only [List.getElem?_toArray, List.getElem?_cons_zero, List.getElem?_cons_succ]; exact rfl) (by kernel_rfl) (by kernel_rfl) (by kernel_rfl) (fun _ _ _ h => h) (Or.inl ⟨by rfl, ?ya13_6⟩) ⟨n0, ph⟩ ?ra13_6
              case ya13_6 =>
                intro w' hS
                obtain ⟨s1, s2⟩ := hS
                go_simp
                try with_reducible rfl
              case ra13_6 =>
              simp only [Act.put, List.setIfInBounds_toArray, List.set_cons_zero, List.set_cons_succ]
              refine wpAnyH_take (i := 14) (v := ?va14_6) (by simp only [List.getElem?_toArray, List.getElem?_cons_zero, List.getElem?_cons_succ]; exact rfl) (by kernel_rfl) (by kernel_rfl) (by kernel_rfl) (fun _ _ _ h => h) (Or.inl ⟨by rfl, ?ya14_6⟩) ⟨n0, ph⟩ ?ra14_6
              case ya14_6 =>
                intro w' hS
                obtain ⟨s1, s2⟩ := hS
                go_simp
                try with_reducible rfl
              case ra14_6 =>
              simp only [Act.put, List.setIfInBounds_toArray, List.set_cons_zero, List.set_cons_succ]
              refine wpAnyH_ready (rs := [15]) (by kernel_rfl) (by simp) ?_
              refine AllReadyH.cons (by simp only [List.getElem?_toArray, List.getElem?_cons_zero, List.getElem?_cons_succ]; exact rfl) (fun K hK => ?_) AllReadyH.nil
              go_simp
              refine hK.out _ _ ⟨(cell_setB hneg.out).trans n0, (cell_setB hneh.out).trans ph⟩ (fun _ => ?_)
              clear hK K
              refine wpAnyH_done (by kernel_rfl) ?_ _
              refine NoPanic.normal ?_
              go_wp2_with fail
              go_roundw
              case rel =>
                obtain ⟨σ', H', f1, f2, f3, f4⟩ := (FINk.out (v + X.size + L) W4 (by rw [HV.out.1, HV.out.2]) HR5.out).out
                have e : ((v + X.size + L : Nat) : Int) = (v : Int) + (X.size : Int) + (L : Int) := by omega
                rw [e] at f2 f3 f4
                rw [wd]
                rw [wq1, wq2]
                exact ⟨i, _, σ', H', Nat.le_of_lt hin.out, rfl, rfl, f1, f2.of rfl, f3.of rfl, f4.drew⟩
              case measure =>
                rw [wd]
                simp [intOf]
          · have HK : Hid (Says L k0 ∧ k0 ≤ 4) := ⟨HK0.out.1, HK0.out.2.1⟩
            go_upto_region 16 with (go_at_call 33; refine HWd.out.mono ?_; rintro e w' ⟨rfl, hw'⟩; subst hw')
            have HLk := HLg k0 HK.out.1
            have hXs : (S (hdrL cl true t L k0)).size = 2 + k0 := by rw [S_size, hdrL_len]
            have FINk : Hid (∀ (v : Nat) (W : World), v = (BhSpM.shut σ d true).getD d 0 + (2 + k0) + L → SpR w W g n i (BhSpM.shut σ d true) (updH H i (hdrL cl true t L k0)) (d : Int) (cl : Int) true (t : Int) sb → Hid (∃ (σ' : List Nat) (H' : Nat → List UInt8), SpI n i D C T M B σ' H' ∧ NumB (W.setCell ⟨w.heap.size + 1, d, none⟩ (.int .i64 (v : Int))) (w.heap.size + 1) σ' ∧ TxtB (W.setCell ⟨w.heap.size + 1, d, none⟩ (.int .i64 (v : Int))) w.heap.size n i H' ∧ Below w.heap.size w (W.setCell ⟨w.heap.size + 1, d, none⟩ (.int .i64 (v : Int))))) := fun v W h1 h2 => FIN g k0 v W HK.out.1 HK.out.2 h1 h2
            have HTX : Hid (∀ W, SpR w W g n (i + 1) (BhSpM.shut σ d true) H (d : Int) (cl : Int) true (t : Int) sb → SpR w (W.setCell ⟨w.heap.size, i, none⟩ (.string (S (hdrL cl true t L k0)))) g n i (BhSpM.shut σ d true) (updH H i (hdrL cl true t L k0)) (d : Int) (cl : Int) true (t : Int) sb) := fun W h => h.txt hin.out _
            have HPH : Hid (updH H i (hdrL cl true t L k0) i = hdrL cl true t L k0) := if_pos rfl
            have hX : Hid (∃ X, X = S (hdrL cl true t L k0)) := ⟨_, rfl⟩
            obtain ⟨X, hX⟩ := hX.out
            rw [← hX] at HLk hXs HTX
            have HX : Hid (X = S (hdrL cl true t L k0)) := hX
            clear HLg FIN hX
            go_upto_region 17 with (go_at_call 34; refine (HLk _).out.mono ?_; rintro e w3 ⟨rfl, hb3⟩; have HR4 : Hid (SpR w w3 g n (i + 1) (BhSpM.shut σ d true) H (d : Int) (cl : Int) true (t : Int) sb) := HR3.out.of hb3; obtain ⟨vx, z1, z2⟩ := HR4.out.2.2.1.any i hin.out)
            have HR5 := HTX.out w3 HR4.out
            have HR5 : Hid (SpR w (w3.setCell ⟨w.heap.size, i, none⟩ (.string X)) g n i (BhSpM.shut σ d true) (updH H i (hdrL cl true t L k0)) (d : Int) (cl : Int) true (t : Int) sb) := HR5
            clear z1 z2 HR4 HTX x0 x1 x2 x3 x4
            generalize w3.setCell ⟨w.heap.size, i, none⟩ (.string X) = W4 at HR5 ⊢
            have n0 := HR5.out.node.1
            obtain ⟨p7, p8⟩ := HR5.out.2.1.at d HL.out.2.2.2.2.1
            have ph : W4.cell? ⟨w.heap.size, i, none⟩ = some (.string X) := by
              rw [HR5.out.2.2.1.at i (Nat.le_refl _) hin.out, HPH.out, HX.out]
            have hneg : Hid (g ≠ w.heap.size + 1) := by have := HR5.out.1; unfold Hid; omega
            have hneh : Hid (w.heap.size ≠ w.heap.size + 1) := by unfold Hid; omega
            have hvd : (BhSpM.shut σ d true).getD d 0 ≤ 67108864 := by rw [BhSpM.shut_at]; exact hv d
            obtain ⟨v, hvv⟩ : ∃ v, (BhSpM.shut σ d true).getD d 0 = v := ⟨_, rfl⟩
            rw [hvv] at p7 hvd
            have HV : Hid ((BhSpM.shut σ d true).getD d 0 = v ∧ X.size = 2 + k0) := ⟨hvv, hXs⟩
            have wq := wr_three v X.size L hvd (by rw [hXs]; have := HK.out.2; omega) HL.out.2.1
            obtain ⟨wq1, wq2⟩ := wq
            clear hvv hvd hXs hv
            refine wp_region_noPanic ?_
            refine wp_region_held_drew (S := fun W' => W'.cell? ⟨g, 0, none⟩ = some (.int .i64 (d : Int)) ∧ W'.cell? ⟨w.heap.size, i, none⟩ = some (.string X)) (by kernel_rfl) ⟨n0, ph⟩ (fun _ => ?_)
            refine wpAnyH_take (i := 0) (v := ?va1_7) (by simp only [List.getElem?_toArray, List.getElem?_cons_zero]; exact rfl) (by kernel_rfl) (by kernel_rfl) (by kernel_rfl) (fun _ _ _ h => h) (Or.inl ⟨by rfl, ?ya1_7⟩) ⟨n0, ph⟩ ?ra1_7
            case ya1_7 =>
              intro w' hS
              obtain ⟨s1, s2⟩ := hS
              go_simp
              try with_reducible rfl
            case ra1_7 =>
            simp only [Act.put, List.setIfInBounds_toArray, List.set_cons_zero, List.set_cons_succ]
            refine wpAnyH_take (i := 1) (v := ?va2_7) (by simp only [List.getElem?_toArray, List.getElem?_cons_zero, List.getElem?_cons_succ]; exact rfl) (by kernel_rfl) (by kernel_rfl) (by kernel_rfl) (fun _ _ _ h => h) (Or.inl ⟨by rfl, ?ya2_7⟩) ⟨n0, ph⟩ ?ra2_7
            case ya2_7 =>
              intro w' hS
              obtain ⟨s1, s2⟩ := hS
              go_simp
              try with_reducible rfl
            case ra2_7 =>
            simp only [Act.put, List.setIfInBounds_toArray, List.set_cons_zero, List.set_cons_succ]
            refine wpAnyH_take (i := 2) (v := ?va3_7) (by simp only [List.getElem?_toArray, List.getElem?_cons_zero, List.getElem?_cons_succ]; exact rfl) (by kernel_rfl) (by kernel_rfl) (by kernel_rfl) (fun _ _ _ h => h) (Or.inl ⟨by rfl, ?ya3_7⟩) ⟨n0, ph⟩ ?ra3_7
            case ya3_7 =>
              intro w' hS
              obtain ⟨s1, s2⟩ := hS
              go_simp
              try with_reducible rfl
            case ra3_7 =>
            simp only [Act.put, List.setIfInBounds_toArray, List.set_cons_zero, List.set_cons_succ]
            refine wpAnyH_take (i := 3) (v := ?va4_7) (by simp only [List.getElem?_toArray, List.getElem?_cons_zero, List.getElem?_cons_succ]; exact rfl) (by kernel_rfl) (by kernel_rfl) (by kernel_rfl) (fun _ _ _ h => h) (Or.inl ⟨by rfl, ?ya4_7⟩) ⟨n0, ph⟩ ?ra4_7
            case ya4_7 =>
              intro w' hS
              obtain ⟨s1, s2⟩ := hS
              go_simp
              try with_reducible rfl
            case ra4_7 =>
            simp only [Act.put, List.setIfInBounds_toArray, List.set_cons_zero, List.set_cons_succ]
            refine wpAnyH_take (i := 4) (v := ?va5_7) (by simp only [List.getElem?_toArray, List.getElem?_cons_zero, List.getElem?_cons_succ]; exact rfl) (by kernel_rfl) (by kernel_rfl) (by kernel_rfl) (fun _ _ _ h => h) (Or.inl ⟨by rfl, ?ya5_7⟩) ⟨n0, ph⟩ ?ra5_7
            case ya5_7 =>
              intro w' hS
              obtain ⟨s1, s2⟩ := hS
              go_simp
              try with_reducible rfl
            case ra5_7 =>
            simp only [Act.put, List.setIfInBounds_toArray, List.set_cons_zero, List.set_cons_succ]
            refine wpAnyH_take (i := 6) (v := ?va6_7) (by simp only [List.getElem?_toArray, List.getElem?_cons_zero, List.getElem?_cons_succ]; exact rfl) (by kernel_rfl) (by kernel_rfl) (by kernel_rfl) (fun _ _ _ h => h) (Or.inl ⟨by rfl, ?ya6_7⟩) ⟨n0, ph⟩ ?ra6_7
            case ya6_7 =>
              intro w' hS
              obtain ⟨s1, s2⟩ := hS
              go_simp
              try with_reducible rfl
            case ra6_7 =>
            simp only [Act.put, List.setIfInBounds_toArray, List.set_cons_zero, List.set_cons_succ]
            refine wpAnyH_take (i := 7) (v := ?va7_7) (by simp only [List.getElem?_toArray, List.getElem?_cons_zero, List.getElem?_cons_succ]; exact rfl) (by kernel_rfl) (by kernel_rfl) (by kernel_rfl) (fun _ _ _ h => h) (Or.inl ⟨by rfl, ?ya7_7⟩) ⟨n0, ph⟩ ?ra7_7
            case ya7_7 =>
              intro w' hS
              obtain ⟨s1, s2⟩ := hS
              go_simp
              try with_reducible rfl
            case ra7_7 =>
            simp only [Act.put, List.setIfInBounds_toArray, List.set_cons_zero, List.set_cons_succ]
            refine wpAnyH_take (i := 8) (v := ?va8_7) (by simp only [List.getElem?_toArray, List.getElem?_cons_zero, List.getElem?_cons_succ]; exact rfl) (by kernel_rfl) (by kernel_rfl) (by kernel_rfl) (fun _ _ _ h => h) (Or.inl ⟨by rfl, ?ya8_7⟩) ⟨n0, ph⟩ ?ra8_7
            case ya8_7 =>
              intro w' hS
              obtain ⟨s1, s2⟩ := hS
              go_simp
              try with_reducible rfl
            case ra8_7 =>
            simp only [Act.put, List.setIfInBounds_toArray, List.set_cons_zero, List.set_cons_succ]
            refine wpAnyH_take (i := 9) (v := ?va9_7) (by simp only [List.getElem?_toArray, List.getElem?_cons_zero, List.getElem?_cons_succ]; exact rfl) (by kernel_rfl) (by kernel_rfl) (by kernel_rfl) (fun _ _ _ h => h) (Or.inl ⟨by rfl, ?ya9_7⟩) ⟨n0, ph⟩ ?ra9_7
            case ya9_7 =>
              intro w' hS
              obtain ⟨s1, s2⟩ := hS
              go_simp
              try with_reducible rfl
            case ra9_7 =>
            simp only [Act.put, List.setIfInBounds_toArray, List.set_cons_zero, List.set_cons_succ]
            refine wpAnyH_take (i := 10) (v := ?va10_7) (by simp only [List.getElem?_toArray, List.getElem?_cons_zero, List.getElem?_cons_succ]; exact rfl) (by kernel_rfl) (by kernel_rfl) (by kernel_rfl) (fun _ _ _ h => h) (Or.inl ⟨by rfl, ?ya10_7⟩) ⟨n0, ph⟩ ?ra10_7
            case ya10_7 =>
              intro w' hS
              obtain ⟨s1, s2⟩ := hS
              go_simp
              try with_reducible rfl
            case ra10_7 =>
            simp only [Act.put, List.setIfInBounds_toArray, List.set_cons_zero, List.set_cons_succ]
            refine wpAnyH_take (i := 12) (v := ?va11_7) (by simp only [List.getElem?_toArray, List.getElem?_cons_zero, List.getElem?_cons_succ]; exact rfl) (by kernel_rfl) (by kernel_rfl) (by kernel_rfl) (fun _ _ _ h => h) (Or.inl ⟨by rfl, ?ya11_7⟩) ⟨n0, ph⟩ ?ra11_7
            case ya11_7 =>
              intro w' hS
              obtain ⟨s1, s2⟩ := hS
              go_simp
              try with_reducible rfl
            case ra11_7 =>
            simp only [Act.put, List.setIfInBounds_toArray, List.set_cons_zero, List.set_cons_succ]
            refine wpAnyH_ready (rs := [5]) (by kernel_rfl) (by simp) ?_
            refine AllReadyH.cons (by simp only [List.getElem?_toArray, List.getElem?_cons_zero, List.getElem?_cons_succ]; exact rfl) (fun K hK => ?_) AllReadyH.nil
            go_simp
            refine hK.out _ _ ⟨n0, ph⟩ (fun _ => ?_)
            clear hK K
            refine wpAnyH_take (i := 11) (v := ?va12_7) (by simp only [List.getElem?_toArray, List.getElem?_cons_zero, List.getElem?_cons_succ]; exact rfl) (by kernel_rfl) (by kernel_rfl) (by kernel_rfl) (fun _ _ _ h => h) (Or.inl ⟨by rfl, ?ya12_7⟩) ⟨n0, ph⟩ ?ra12_7
            case ya12_7 =>
              intro w' hS
              obtain ⟨s1, s2⟩ := hS
              go_simp
              try with_reducible rfl
            case ra12_7 =>
            simp only [Act.put, List.setIfInBounds_toArray, List.set_cons_zero, List.set_cons_succ]
            refine wpAnyH_take (i := 13) (v := ?va13_7) (by simp only [List.getElem?_toArray, List.getElem?_cons_zero, List.getElem?_cons_succ]; exact rfl) (by kernel_rfl) (by kernel_rfl) (by kernel_rfl) (fun _ _ _ h => h) (Or.inl ⟨by rfl, ?ya13_7⟩) ⟨n0, ph⟩ ?ra13_7
            case ya13_7 =>
              intro w' hS
              obtain ⟨s1, s2⟩ := hS
              go_simp
              try with_reducible rfl
            case ra13_7 =>
            simp only [Act.put, List.setIfInBounds_toArray, List.set_cons_zero, List.set_cons_succ]
            refine wpAnyH_take (i := 14) (v := ?va14_7) (by simp only [List.getElem?_toArray, List.getElem?_cons_zero, List.getElem?_cons_succ]; exact rfl) (by kernel_rfl) (by kernel_rfl) (by kernel_rfl) (fun _ _ _ h => h) (Or.inl ⟨by rfl, ?ya14_7⟩) ⟨n0, ph⟩ ?ra14_7
            case ya14_7 =>
              intro w' hS
              obtain ⟨s1, s2⟩ := hS
              go_simp
              try with_reducible rfl
            case ra14_7 =>
            simp only [Act.put, List.setIfInBounds_toArray, List.set_cons_zero, List.set_cons_succ]
            refine wpAnyH_ready (rs := [15]) (by kernel_rfl) (by simp) ?_
            refine AllReadyH.cons (by simp only [List.getElem?_toArray, List.getElem?_cons_zero, List.getElem?_cons_succ]; exact rfl) (fun K hK => ?_) AllReadyH.nil
            go_simp
            refine hK.out _ _ ⟨(cell_setB hneg.out).trans n0, (cell_setB hneh.out).trans ph⟩ (fun _ => ?_)
            clear hK K
            refine wpAnyH_done (by kernel_rfl) ?_ _
            refine NoPanic.normal ?_
            go_wp2_with fail
            go_roundw
            case rel =>
              obtain ⟨σ', H', f1, f2, f3, f4⟩ := (FINk.out (v + X.size + L) W4 (by rw [HV.out.1, HV.out.2]) HR5.out).out
              have e : ((v + X.size + L : Nat) : Int) = (v : Int) + (X.size : Int) + (L : Int) := by omega
              rw [e] at f2 f3 f4
              rw [wd]
              rw [wq1, wq2]
              exact ⟨i, _, σ', H', Nat.le_of_lt hin.out, rfl, rfl, f1, f2.of rfl, f3.of rfl, f4.drew⟩
            case measure =>
              rw [wd]
              simp [intOf]
        · have f1 : ¬ (i : Int) < (fn : Int) := by omega
          clear hfi
          have HK : Hid (Says L k0 ∧ k0 ≤ 4) := ⟨HK0.out.1, HK0.out.2.1⟩
          go_upto_region 16 with (go_at_call 33; refine HWd.out.mono ?_; rintro e w' ⟨rfl, hw'⟩; subst hw')
          have HLk := HLg k0 HK.out.1
          have hXs : (S (hdrL cl true t L k0)).size = 2 + k0 := by rw [S_size, hdrL_len]
          have FINk : Hid (∀ (v : Nat) (W : World), v = (BhSpM.shut σ d true).getD d 0 + (2 + k0) + L → SpR w W g n i (BhSpM.shut σ d true) (updH H i (hdrL cl true t L k0)) (d : Int) (cl : Int) true (t : Int) sb → Hid (∃ (σ' : List Nat) (H' : Nat → List UInt8), SpI n i D C T M B σ' H' ∧ NumB (W.setCell ⟨w.heap.size + 1, d, none⟩ (.int .i64 (v : Int))) (w.heap.size + 1) σ' ∧ TxtB (W.setCell ⟨w.heap.size + 1, d, none⟩ (.int .i64 (v : Int))) w.heap.size n i H' ∧ Below w.heap.size w (W.setCell ⟨w.heap.size + 1, d, none⟩ (.int .i64 (v : Int))))) := fun v W h1 h2 => FIN g k0 v W HK.out.1 HK.out.2 h1 h2
          have HTX : Hid (∀ W, SpR w W g n (i + 1) (BhSpM.shut σ d true) H (d : Int) (cl : Int) true (t : Int) sb → SpR w (W.setCell ⟨w.heap.size, i, none⟩ (.string (S (hdrL cl true t L k0)))) g n i (BhSpM.shut σ d true) (updH H i (hdrL cl true t L k0)) (d : Int) (cl : Int) true (t : Int) sb) := fun W h => h.txt hin.out _
          have HPH : Hid (updH H i (hdrL cl true t L k0) i = hdrL cl true t L k0) := if_pos rfl
          have hX : Hid (∃ X, X = S (hdrL cl true t L k0)) := ⟨_, rfl⟩
          obtain ⟨X, hX⟩ := hX.out
          rw [← hX] at HLk hXs HTX
          have HX : Hid (X = S (hdrL cl true t L k0)) := hX
          clear HLg FIN hX
          go_upto_region 17 with (go_at_call 34; refine (HLk _).out.mono ?_; rintro e w3 ⟨rfl, hb3⟩; have HR4 : Hid (SpR w w3 g n (i + 1) (BhSpM.shut σ d true) H (d : Int) (cl : Int) true (t : Int) sb) := HR3.out.of hb3; obtain ⟨vx, z1, z2⟩ := HR4.out.2.2.1.any i hin.out)
          have HR5 := HTX.out w3 HR4.out
          have HR5 : Hid (SpR w (w3.setCell ⟨w.heap.size, i, none⟩ (.string X)) g n i (BhSpM.shut σ d true) (updH H i (hdrL cl true t L k0)) (d : Int) (cl : Int) true (t : Int) sb) := HR5
          clear z1 z2 HR4 HTX x0 x1 x2 x3 x4
          generalize w3.setCell ⟨w.heap.size, i, none⟩ (.string X) = W4 at HR5 ⊢
          have n0 := HR5.out.node.1
          obtain ⟨p7, p8⟩ := HR5.out.2.1.at d HL.out.2.2.2.2.1
          have ph : W4.cell? ⟨w.heap.size, i, none⟩ = some (.string X) := by
            rw [HR5.out.2.2.1.at i (Nat.le_refl _) hin.out, HPH.out, HX.out]
          have hneg : Hid (g ≠ w.heap.size + 1) := by have := HR5.out.1; unfold Hid; omega
          have hneh : Hid (w.heap.size ≠ w.heap.size + 1) := by unfold Hid; omega
          have hvd : (BhSpM.shut σ d true).getD d 0 ≤ 67108864 := by rw [BhSpM.shut_at]; exact hv d
          obtain ⟨v, hvv⟩ : ∃ v, (BhSpM.shut σ d true).getD d 0 = v := ⟨_, rfl⟩
          rw [hvv] at p7 hvd
          have HV : Hid ((BhSpM.shut σ d true).getD d 0 = v ∧ X.size = 2 + k0) := ⟨hvv, hXs⟩
          have wq := wr_three v X.size L hvd (by rw [hXs]; have := HK.out.2; omega) HL.out.2.1
          obtain ⟨wq1, wq2⟩ := wq
          clear hvv hvd hXs hv
          refine wp_region_noPanic ?_
          refine wp_region_held_drew (S := fun W' => W'.cell? ⟨g, 0, none⟩ = some (.int .i64 (d : Int)) ∧ W'.cell? ⟨w.heap.size, i, none⟩ = some (.string X)) (by kernel_rfl) ⟨n0, ph⟩ (fun _ => ?_)
          refine wpAnyH_take (i := 0) (v := ?va1_8) (by simp only [List.getElem?_toArray, List.getElem?_cons_zero]; exact rfl) (by kernel_rfl) (by kernel_rfl) (by kernel_rfl) (fun _ _ _ h => h) (Or.inl ⟨by rfl, ?ya1_8⟩) ⟨n0, ph⟩ ?ra1_8
          case ya1_8 =>
            intro w' hS
            obtain ⟨s1, s2⟩ := hS
            go_simp
            try with_reducible rfl
          case ra1_8 =>
          simp only [Act.put, List.setIfInBounds_toArray, List.set_cons_zero, List.set_cons_succ]
          refine wpAnyH_take (i := 1) (v := ?va2_8) (by simp only [List.getElem?_toArray, List.getElem?_cons_zero, List.getElem?_cons_succ]; exact rfl) (by kernel_rfl) (by kernel_rfl) (by kernel_rfl) (fun _ _ _ h => h) (Or.inl ⟨by rfl, ?ya2_8⟩) ⟨n0, ph⟩ ?ra2_8
          case ya2_8 =>
            intro w' hS
            obtain ⟨s1, s2⟩ := hS
            go_simp
            try with_reducible rfl
          case ra2_8 =>
          simp only [Act.put, List.setIfInBounds_toArray, List.set_cons_zero, List.set_cons_succ]
          refine wpAnyH_take (i := 2) (v := ?va3_8) (by simp only [List.getElem?_toArray, List.getElem?_cons_zero, List.getElem?_cons_succ]; exact rfl) (by kernel_rfl) (by kernel_rfl) (by kernel_rfl) (fun _ _ _ h => h) (Or.inl ⟨by rfl, ?ya3_8⟩) ⟨n0, ph⟩ ?ra3_8
          case ya3_8 =>
            intro w' hS
            obtain ⟨s1, s2⟩ := hS
            go_simp
            try with_reducible rfl
          case ra3_8 =>
          simp only [Act.put, List.setIfInBounds_toArray, List.set_cons_zero, List.set_cons_succ]
          refine wpAnyH_take (i := 3) (v := ?va4_8) (by simp only [List.getElem?_toArray, List.getElem?_cons_zero, List.getElem?_cons_succ]; exact rfl) (by kernel_rfl) (by kernel_rfl) (by kernel_rfl) (fun _ _ _ h => h) (Or.inl ⟨by rfl, ?ya4_8⟩) ⟨n0, ph⟩ ?ra4_8
          case ya4_8 =>
            intro w' hS
            obtain ⟨s1, s2⟩ := hS
            go_simp
            try with_reducible rfl
          case ra4_8 =>
          simp only [Act.put, List.setIfInBounds_toArray, List.set_cons_zero, List.set_cons_succ]
          refine wpAnyH_take (i := 4) (v := ?va5_8) (by simp only [List.getElem?_toArray, List.getElem?_cons_zero, List.getElem?_cons_succ]; exact rfl) (by kernel_rfl) (by kernel_rfl) (by kernel_rfl) (fun _ _ _ h => h) (Or.inl ⟨by rfl, ?ya5_8⟩) ⟨n0, ph⟩ ?ra5_8
          case ya5_8 =>
            intro w' hS
            obtain ⟨s1, s2⟩ := hS
            go_simp
            try with_reducible rfl
          case ra5_8 =>
          simp only [Act.put, List.setIfInBounds_toArray, List.set_cons_zero, List.set_cons_succ]
          refine wpAnyH_take (i := 6) (v := ?va6_8) (by simp only [List.getElem?_toArray, List.getElem?_cons_zero, List.getElem?_cons_succ]; exact rfl) (by kernel_rfl) (by kernel_rfl) (by kernel_rfl) (fun _ _ _ h => h) (Or.inl ⟨by rfl, ?ya6_8⟩) ⟨n0, ph⟩ ?ra6_8
          case ya6_8 =>
            intro w' hS
            obtain ⟨s1, s2⟩ := hS
            go_simp
            try with_reducible rfl
          case ra6_8 =>
          simp only [Act.put, List.setIfInBounds_toArray, List.set_cons_zero, List.set_cons_succ]
          refine wpAnyH_take (i := 7) (v := ?va7_8) (by simp only [List.getElem?_toArray, List.getElem?_cons_zero, List.getElem?_cons_succ]; exact rfl) (by kernel_rfl) (by kernel_rfl) (by kernel_rfl) (fun _ _ _ h => h) (Or.inl ⟨by rfl, ?ya7_8⟩) ⟨n0, ph⟩ ?ra7_8
          case ya7_8 =>
            intro w' hS
            obtain ⟨s1, s2⟩ := hS
            go_simp
            try with_reducible rfl
          case ra7_8 =>
          simp only [Act.put, List.setIfInBounds_toArray, List.set_cons_zero, List.set_cons_succ]
          refine wpAnyH_take (i := 8) (v := ?va8_8) (by simp only [List.getElem?_toArray, List.getElem?_cons_zero, List.getElem?_cons_succ]; exact rfl) (by kernel_rfl) (by kernel_rfl) (by kernel_rfl) (fun _ _ _ h => h) (Or.inl ⟨by rfl, ?ya8_8⟩) ⟨n0, ph⟩ ?ra8_8
          case ya8_8 =>
            intro w' hS
            obtain ⟨s1, s2⟩ := hS
            go_simp
            try with_reducible rfl
          case ra8_8 =>
          simp only [Act.put, List.setIfInBounds_toArray, List.set_cons_zero, List.set_cons_succ]
          refine wpAnyH_take (i := 9) (v := ?va9_8) (by simp only [List.getElem?_toArray, List.getElem?_cons_zero, List.getElem?_cons_succ]; exact rfl) (by kernel_rfl) (by kernel_rfl) (by kernel_rfl) (fun _ _ _ h => h) (Or.inl ⟨by rfl, ?ya9_8⟩) ⟨n0, ph⟩ ?ra9_8
          case ya9_8 =>
            intro w' hS
            obtain ⟨s1, s2⟩ := hS
            go_simp
            try with_reducible rfl
          case ra9_8 =>
          simp only [Act.put, List.setIfInBounds_toArray, List.set_cons_zero, List.set_cons_succ]
          refine wpAnyH_take (i := 10) (v := ?va10_8) (by simp only [List.getElem?_toArray, List.getElem?_cons_zero, List.getElem?_cons_succ]; exact rfl) (by kernel_rfl) (by kernel_rfl) (by kernel_rfl) (fun _ _ _ h => h) (Or.inl ⟨by rfl, ?ya10_8⟩) ⟨n0, ph⟩ ?ra10_8
          case ya10_8 =>
            intro w' hS
            obtain ⟨s1, s2⟩ := hS
            go_simp
            try with_reducible rfl
          case ra10_8 =>
          simp only [Act.put, List.setIfInBounds_toArray, List.set_cons_zero, List.set_cons_succ]
          refine wpAnyH_take (i := 12) (v := ?va11_8) (by simp only [List.getElem?_toArray, List.getElem?_cons_zero, List.getElem?_cons_succ]; exact rfl) (by kernel_rfl) (by kernel_rfl) (by kernel_rfl) (fun _ _ _ h => h) (Or.inl ⟨by rfl, ?ya11_8⟩) ⟨n0, ph⟩ ?ra11_8
          case ya11_8 =>
            intro w' hS
            obtain ⟨s1, s2⟩ := hS
            go_simp
            try with_reducible rfl
          case ra11_8 =>
          simp only [Act.put, List.setIfInBounds_toArray, List.set_cons_zero, List.set_cons_succ]
          refine wpAnyH_ready (rs := [5]) (by kernel_rfl) (by simp) ?_
          refine AllReadyH.cons (by simp only [List.getElem?_toArray, List.getElem?_cons_zero, List.getElem?_cons_succ]; exact rfl) (fun K hK => ?_) AllReadyH.nil
          go_simp
          refine hK.out _ _ ⟨n0, ph⟩ (fun _ => ?_)
          clear hK K
          refine wpAnyH_take (i := 11) (v := ?va12_8) (by simp only [List.getElem?_toArray, List.getElem?_cons_zero, List.getElem?_cons_succ]; exact rfl) (by kernel_rfl) (by kernel_rfl) (by kernel_rfl) (fun _ _ _ h => h) (Or.inl ⟨by rfl, ?ya12_8⟩) ⟨n0, ph⟩ ?ra12_8
          case ya12_8 =>
            intro w' hS
            obtain ⟨s1, s2⟩ := hS
            go_simp
            try with_reducible rfl
          case ra12_8 =>
          simp only [Act.put, List.setIfInBounds_toArray, List.set_cons_zero, List.set_cons_succ]
          refine wpAnyH_take (i := 13) (v := ?va13_8) (by simp only [List.getElem?_toArray, List.getElem?_cons_zero, List.getElem?_cons_succ]; exact rfl) (by kernel_rfl) (by kernel_rfl) (by kernel_rfl) (fun _ _ _ h => h) (Or.inl ⟨by rfl, ?ya13_8⟩) ⟨n0, ph⟩ ?ra13_8
          case ya13_8 =>
            intro w' hS
            obtain ⟨s1, s2⟩ := hS
            go_simp
            try with_reducible rfl
          case ra13_8 =>
          simp only [Act.put, List.setIfInBounds_toArray, List.set_cons_zero, List.set_cons_succ]
          refine wpAnyH_take (i := 14) (v := ?va14_8) (by simp only [List.getElem?_toArray, List.getElem?_cons_zero, List.getElem?_cons_succ]; exact rfl) (by kernel_rfl) (by kernel_rfl) (by kernel_rfl) (fun _ _ _ h => h) (Or.inl ⟨by rfl, ?ya14_8⟩) ⟨n0, ph⟩ ?ra14_8
          case ya14_8 =>
            intro w' hS
            obtain ⟨s1, s2⟩ := hS
            go_simp
            try with_reducible rfl
          case ra14_8 =>
          simp only [Act.put, List.setIfInBounds_toArray, List.set_cons_zero, List.set_cons_succ]
          refine wpAnyH_ready (rs := [15]) (by kernel_rfl) (by simp) ?_
          refine AllReadyH.cons (by simp only [List.getElem?_toArray, List.getElem?_cons_zero, List.getElem?_cons_succ]; exact rfl) (fun K hK => ?_) AllReadyH.nil
          go_simp
          refine hK.out _ _ ⟨(cell_setB hneg.out).trans n0, (cell_setB hneh.out).trans ph⟩ (fun _ => ?_)
          clear hK K
          refine wpAnyH_done (by kernel_rfl) ?_ _
          refine NoPanic.normal ?_
          go_wp2_with fail
          go_roundw
          case rel =>
            obtain ⟨σ', H', f1, f2, f3, f4⟩ := (FINk.out (v + X.size + L) W4 (by rw [HV.out.1, HV.out.2]) HR5.out).out
            have e : ((v + X.size + L : Nat) : Int) = (v : Int) + (X.size : Int) + (L : Int) := by omega
            rw [e] at f2 f3 f4
            rw [wd]
            rw [wq1, wq2]
            exact ⟨i, _, σ', H', Nat.le_of_lt hin.out, rfl, rfl, f1, f2.of rfl, f3.of rfl, f4.drew⟩
          case measure =>
            rw [wd]
            simp [intOf]
end Go.Proofs.Ytgfonnjblbpogaa
