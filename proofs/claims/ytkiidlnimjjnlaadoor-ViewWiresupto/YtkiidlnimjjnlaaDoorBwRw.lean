import Derived.Test.YtkiidlnimjjnlaaDoorBSX
import Derived.Deep.RegionHeld3
import Derived.Deep.RegionHeldLaw
import Derived.Deep.RegionWith
import Derived.Lib.AppendZeros
import Derived.BigQuiet
namespace Go.Proofs.YtkiidlnimjjnlaaDoor
open Go.RowKit
open BerMath (lo)
set_option linter.unusedVariables false

theorem fit_ge {D C T : Nat → Int} {M : Nat → Bool} {B : Nat → ByteArray} {j : Nat} (h : Fit D C T M B j) : 1 ≤ D j ∧ D j ≤ 64 := by
  refine ⟨?_, h.2⟩
  have h1 := h.1.1
  cases j with
  | zero => exact h1
  | succ j => have : (2 : Int) ≤ D (j + 1) := h1; omega
theorem ck_more {k : Nat} {D C T : Nat → Int} {M : Nat → Bool} {B : Nat → ByteArray} (h : ∀ i, i < k → Fit D C T M B i) (h' : Fit D C T M B k) : ∀ i, i < k + 1 → Fit D C T M B i := fun i hi => by
  by_cases e : i = k
  · subst e; exact h'
  · exact h i (by omega)
theorem meas_up (n k : Nat) (h : k < n) (hw : wrap64 ((k : Int) + 1) = (k : Int) + 1) : n - (intOf (.int .i64 (wrap64 ((k : Int) + 1)))).toNat < n - (intOf (.int .i64 (k : Int))).toNat := by
  rw [hw]
  show n - ((k : Int) + 1).toNat < n - (k : Int).toNat
  omega

set_option maxRecDepth 100000 in
set_option maxHeartbeats 4000000 in
theorem rWrite_any (a : Option Addr) (n c : Nat) (D C T : Nat → Int) (M : Nat → Bool) (B : Nat → ByteArray) (w : World) (hn : IsNodes w a n D C T M B) (hs : bsum B n ≤ 67108864) :
    Calls Tryd.prog 17 #[.slice a n c] w fun e w' => WrE e n D C T M B ∧ Below w.heap.size w w' := by
  have hnn : n ≤ 67108864 := by have := bsum_six B n; omega
  have HG : Hid (IsNodes w a n D C T M B ∧ bsum B n ≤ 67108864 ∧ n ≤ 67108864) := ⟨hn, hs, hnn⟩
  have hmk := make_ints n hnn
  clear hn hs hnn
  by_cases hn0 : n = 0
  · subst hn0
    go_enter Tryd.func17, Tryd.ntmps17
    go_wp2_with fail
    refine bodyPost_ret_by (v := .tuple #[.string ⟨#[]⟩, .int .i64 28, .int .i64 0]) (by simp [results, Tryd.results17]) rfl ⟨Or.inr ⟨28, 0, by decide, Or.inr (Or.inl ⟨rfl, rfl, rfl⟩), rfl⟩, Below.refl _ _⟩
  have e0n : ((n : Int) == 0) = false := by rw [beq_eq_false_iff_ne]; omega
  have hpos : Hid (0 < n) := by unfold Hid; omega
  clear hn0
  go_enter Tryd.func17, Tryd.ntmps17
  go_wp2_with fail
  go_loopw [5] (fun iv wr => ∃ (k : Nat), k ≤ n ∧ iv = .int .i64 (k : Int) ∧ Hid ((∀ i, i < k → Fit D C T M B i) ∧ Below w.heap.size w wr)) (fun iv _ => n - (intOf iv).toNat)
  case atStart => exact ⟨0, Nat.zero_le _, rfl, fun i hi => by omega, Below.refl _ _⟩
  case round =>
    obtain ⟨k, hk, rfl, HI⟩ := hrel
    have i0 : (0 : Int) ≤ (k : Int) := Int.natCast_nonneg _
    by_cases hlt : k < n
    · have i1 : (k : Int) < (n : Int) := Int.ofNat_lt.2 hlt
      clear hmk
      have HF : Hid (Calls Tryd.prog 38 #[.slice a n c, .int .i64 (k : Int)] wr fun r w' => (∃ g, r = .returned (.bool g) ∧ (g = true ↔ NdOk D C T M B k)) ∧ Below wr.heap.size wr w') := rfront_any a n c D C T M B k wr (HG.out.1.below HI.out.2) hlt (by have := HG.out.2.2; omega) (fun j hj => fit_ge (HI.out.1 j (by omega)))
      have hkw := wr_up k (by have := HG.out.2.2; omega)
      have hlt' : Hid (k < n) := hlt
      clear hk hlt
      go_wp2_with fail
      refine HF.out.mono ?_
      rintro r w1 ⟨⟨g, rfl, hg⟩, hb1⟩
      have HB1 : Hid (Below w.heap.size w w1) := HI.out.2.trans (hb1.mono HI.out.2.size)
      clear HF hb1
      cases g with
      | false =>
        have hfin : Hid (WrE (.returned (.tuple #[.string ⟨#[]⟩, .int .i64 28, .int .i64 (k : Int)])) n D C T M B) := Or.inr ⟨28, k, by decide, Or.inr (Or.inr ⟨k, hlt'.out, HI.out.1, rfl, Or.inl ⟨fun h => (by have := hg.2 h; cases this), rfl⟩⟩), rfl⟩
        clear hg HI
        go_wp2_with fail
        refine bodyPost_ret_by (v := .tuple #[.string ⟨#[]⟩, .int .i64 28, .int .i64 (k : Int)]) (by simp [results, Tryd.results17]) rfl ⟨hfin.out, HB1.out⟩
      | true =>
        have hok : Hid (NdOk D C T M B k) := hg.1 rfl
        clear hg
        obtain ⟨b, off, rfl, c0, c1, c2, c3, c4⟩ := (HG.out.1.below HB1.out) k hlt'.out
        by_cases q : D k > 64
        · have hfin : Hid (WrE (.returned (.tuple #[.string ⟨#[]⟩, .int .i64 25, .int .i64 (k : Int)])) n D C T M B) := Or.inr ⟨25, k, by decide, Or.inr (Or.inr ⟨k, hlt'.out, HI.out.1, rfl, Or.inr ⟨hok.out, by omega, rfl⟩⟩), rfl⟩
          clear HI c1 c2 c3 c4
          go_wp2_with fail
          refine bodyPost_ret_by (v := .tuple #[.string ⟨#[]⟩, .int .i64 25, .int .i64 (k : Int)]) (by simp [results, Tryd.results17]) rfl ⟨hfin.out, HB1.out⟩
        · have hnext : Hid (∀ i, i < k + 1 → Fit D C T M B i) := ck_more HI.out.1 ⟨hok.out, by omega⟩
          clear HI c1 c2 c3 c4
          go_wp2_with fail
          exact ⟨⟨k + 1, hlt'.out, congrArg (Value.int .i64) (by rw [hkw]; omega), hnext.out, HB1.out⟩, meas_up n k hlt'.out hkw⟩
    · obtain rfl : k = n := by omega
      have i1 : ¬ (k : Int) < (k : Int) := by omega
      have HGd : Hid (∀ i, i < k → Good D C T M B i) := (fit_iff k D C T M B).1 HI.out.1
      have HB1 : Hid (Below w.heap.size w wr) := HI.out.2
      have hw1 : wrap64 ((k : Int) - 1) = (k : Int) - 1 := by have := HG.out.2.2; unfold wrap64; omega
      clear HI hlt hk
      obtain ⟨w1, hw1e⟩ : ∃ w1, wr = w1 := ⟨_, rfl⟩
      have hw1f := hw1e.symm
      clear hw1e
      subst hw1f
      go_wp2_with fail
      go_loopw [9] (fun iv wr => ∃ (K : Nat) (σ : List Nat) (H : Nat → List UInt8) (Ls : Nat → Nat), K ≤ k ∧ iv = .int .i64 ((K : Int) - 1) ∧ Hid (SpI k K D C T M B σ H ∧ (∀ j, K ≤ j → j < k → HSh C T M Ls H j) ∧ MsG w1 wr k K σ Ls)) (fun iv _ => (intOf iv + 1).toNat)
      case atStart =>
        refine ⟨k, _, _, (fun _ => 0), Nat.le_refl _, by go_num, ⟨spI_start k hpos.out D C T M B, fun j h1 h2 => by omega, ?_, ?_, ?_⟩⟩
        · exact (num_new w1).of (Below.heap_alloc _ _ _ (by simp))
        · have := len_new (w1.alloc (.cells sZ 66)) k
          have hz : Tryd.zeroCells66 = sZ := by kernel_rfl
          rw [hz]
          simpa using this
        · exact ((Below.refl _ _).alloc (Nat.le_refl _) _).alloc (by simp) _
      case round =>
        obtain ⟨K, σ, H, Ls, hK, rfl, HI⟩ := hrel
        clear hw1 hmk
        cases K with
        | zero =>
          have ez : (((0 : Nat) : Int) - 1) = -1 := by omega
          rw [ez]
          have hR : Hid (SpI k 0 D C T M B σ H ∧ ∀ j, j < k → ∃ len, H j = hdrL (C j).toNat (M j) (T j).toNat len (ll len) ∧ len ≤ 67108864) := ⟨HI.out.1, fun j hj => ⟨_, (HI.out.2.1 j (Nat.zero_le _) hj).1, (HI.out.2.1 j (Nat.zero_le _) hj).2⟩⟩
          have hH' : Hid (∀ j, j < k → H j = hdrL (C j).toNat (M j) (T j).toNat (Ls j) (ll (Ls j)) ∧ Ls j ≤ 67108864) := fun j hj => HI.out.2.1 j (Nat.zero_le _) hj
          have hLB : Hid (LenB wr (w1.heap.size + 1) k 0 Ls) := HI.out.2.2.2.1
          have hw12 : Hid (w1.heap.size + 1 < wr.heap.size) := HI.out.2.2.2.1.lt
          have HB2 : Hid (Below w.heap.size w wr) := HB1.out.trans (HI.out.2.2.2.2.mono HB1.out.size)
          have hlen : Hid (∀ j, j ≤ k → (outB H B 0 j).length ≤ 67108864) := by
            unfold Hid
            intro j hj
            obtain ⟨len, kk, rest, r1, r2, r3, r4⟩ := spI_end hpos.out HI.out.1
            have h1 := outB_le H B k j hj
            have h2 : (outB H B 0 k).length = 2 + kk + len := by rw [r1, List.length_append, hdrL_len, r3]
            have := HG.out.2.1
            omega
          clear HI hK
          obtain ⟨w2, hw2e⟩ : ∃ w2, wr = w2 := ⟨_, rfl⟩
          have hw2f := hw2e.symm
          clear hw2e
          subst hw2f
          go_wp2_with fail
          go_loopw [12, 13] (fun ov iv wr => ∃ (j : Nat) (vo : Value), ov = vo ∧ j ≤ k ∧ iv = .int .i64 (j : Int) ∧ Hid (Own wr w2.heap.size vo (outB H B 0 j) ∧ Below w2.heap.size w2 wr)) (fun _ iv _ => k - (intOf iv).toNat)
          case atStart => exact ⟨0, _, rfl, Nat.zero_le _, rfl, own_nil _ _, Below.refl _ _⟩
          case round =>
            obtain ⟨j, vo, hvo, hj, rfl, HO⟩ := hrel
            have hvo' := hvo.symm
            clear hvo
            subst hvo'
            have j0 : (0 : Int) ≤ (j : Int) := Int.natCast_nonneg _
            by_cases hlt : j < k
            · have j1 : (j : Int) < (k : Int) := Int.ofNat_lt.2 hlt
              obtain ⟨b, off, rfl, c0, c1, c2, c3, c4⟩ := ((HG.out.1.below HB2.out).below HO.out.2) j hlt
              obtain ⟨gd1, gd2, gd3, gd4, _⟩ := HGd.out j hlt
              have l1 : wr.cell? ⟨w1.heap.size + 1, j, none⟩ = some (.int .i64 (Ls j : Int)) := (HO.out.2.cell hw12.out).trans (hLB.out.at j (Nat.zero_le _) hlt)
              have hs2 : w2.heap.size ≤ wr.heap.size := HO.out.2.size
              have hbw : Hid (b < wr.heap.size ∧ w1.heap.size + 1 < wr.heap.size) := ⟨World.block_lt_of_cell? wr _ c0, Nat.lt_of_lt_of_le hw12.out hs2⟩
              have hl1 : Hid ((outB H B 0 j).length ≤ 67108864 ∧ (outB H B 0 (j + 1)).length ≤ 67108864) := ⟨hlen.out j hj, hlen.out (j + 1) hlt⟩
              obtain ⟨cl, hc⟩ : ∃ d : Nat, C j = (d : Int) := ⟨(C j).toNat, by omega⟩
              obtain ⟨t, ht⟩ : ∃ d : Nat, T j = (d : Int) := ⟨(T j).toNat, by omega⟩
              obtain ⟨m, hm⟩ : ∃ m, M j = m := ⟨_, rfl⟩
              obtain ⟨s, hs⟩ : ∃ s, B j = s := ⟨_, rfl⟩
              have hct : Hid (cl ≤ 3 ∧ t ≤ 30 ∧ Ls j ≤ 67108864) := ⟨by omega, by omega, (hH'.out j hlt).2⟩
              have hsn : Hid (outB H B 0 (j + 1) = (outB H B 0 j ++ (fb cl m t :: lenB (Ls j))) ++ s.data.toList) := by
                unfold Hid
                rw [outB_snoc, (hH'.out j hlt).1, hdr_short, hc, ht, hm, hs, Int.toNat_natCast, Int.toNat_natCast, List.append_assoc]
              have hwj := wr_up j (by have := HG.out.2.2; omega)
              have hlt' : Hid (j < k) := hlt
              rw [hc] at c1
              rw [hm] at c2
              rw [ht] at c3
              rw [hs] at c4
              obtain ⟨Lj, hLj⟩ : ∃ x, Ls j = x := ⟨_, rfl⟩
              rw [hLj] at l1 hsn hct
              have hP : Hid (∀ W, Calls Tryd.prog 39 #[.int .i64 (cl : Int), .bool m, .int .i64 (t : Int), .int .i64 (Lj : Int)] W fun r w' => ∃ v', r = .returned v' ∧ Own w' W.heap.size v' (fb cl m t :: lenB Lj) ∧ Below W.heap.size W w') := fun W => refHeader_any cl t m Lj W hct.out.1 hct.out.2.1 (by have := hct.out.2.2; omega)
              have hSf : Hid (∀ w5, Below wr.drew.heap.size wr.drew w5 → w5.cell? ⟨b, off + j * 5 + 1, none⟩ = some (.int .i64 (cl : Int)) ∧ w5.cell? ⟨b, off + j * 5 + 2, none⟩ = some (.bool m) ∧ w5.cell? ⟨b, off + j * 5 + 3, none⟩ = some (.int .i64 (t : Int)) ∧ w5.cell? ⟨w1.heap.size + 1, j, none⟩ = some (.int .i64 (Lj : Int))) := fun w5 hb5 => ⟨(hb5.cell hbw.out.1).trans c1, (hb5.cell hbw.out.1).trans c2, (hb5.cell hbw.out.1).trans c3, (hb5.cell hbw.out.2).trans l1⟩
              clear hc ht hm hs hLj gd1 gd2 gd3 gd4 hj hlt c0
              go_upto_region 29 with fail
              go_region_held3 (fun w' => w'.cell? ⟨b, off + j * 5 + 1, none⟩ = some (.int .i64 (cl : Int)) ∧ w'.cell? ⟨b, off + j * 5 + 2, none⟩ = some (.bool m) ∧ w'.cell? ⟨b, off + j * 5 + 3, none⟩ = some (.int .i64 (t : Int)) ∧ w'.cell? ⟨w1.heap.size + 1, j, none⟩ = some (.int .i64 (Lj : Int)))
                (first | exact ⟨c1, c2, c3, l1⟩ | exact hS5)
                (first | (go_at_call 39; refine (hP.out _).mono ?_; rintro r w5 ⟨v5, rfl, ho5, hb5⟩; have hS5 := hSf.out w5 hb5))
              have ho : Own w5 w2.heap.size vo (outB H B 0 j) := ownB_below (World.ownsRow.drew HO.out.1) hb5
              obtain ⟨v6, w6, e6, o6, b6⟩ := appendB_row w5 w2.heap.size vo _ _ v5 _ ho ho5 (by simp) (Nat.le_trans hs2 hb5.size) (by have := hl1.out.2; rw [hsn.out, List.length_append, List.length_append] at this; omega)
              have hb6 : Hid (Below w2.heap.size w2 w6) := (HO.out.2.trans ((belowN (Below.refl _ _) 1).trans (hb5.mono hs2))).trans b6
              have hbw2 : b < w2.heap.size := by
                obtain ⟨b', off', e', q0, _⟩ := (HG.out.1.below HB2.out) j hlt'.out
                injection e' with e'
                injection e' with e1 e2
                subst e1 e2
                exact World.block_lt_of_cell? w2 _ q0
              have c6 : w6.cell? ⟨b, off + j * 5 + 4, none⟩ = some (.string s) := (b6.cell hbw2).trans ((hb5.cell hbw.out.1).trans c4)
              clear hS5 hSf hP c1 c2 c3 c4 l1 ho ho5 hb5 HO b6 hbw2 hbw
              go_upto_region 31 with (at_builtin; refine Lib.wpList_append_run _ rfl _ _ _ _ rfl _ _ rfl rfl _ _ e6 ?_; clear e6)
              have hs6 : w2.heap.size ≤ w6.heap.size := hb6.out.size
              have hl2 : Hid ((outB H B 0 j ++ (fb cl m t :: lenB Lj)).length + s.size ≤ 1099511627776) := by
                have h := hl1.out.2
                rw [hsn.out, List.length_append, size_l] at h
                unfold Hid
                omega
              go_wp2_with (at_builtin; refine push_str _ rfl _ _ rfl w2.heap.size _ (outB H B 0 j ++ (fb cl m t :: lenB Lj)) s rfl rfl ?_ ?_ ?_ ?_; (exact o6); (exact hs6); (exact hl2.out); intro v7 w7 hown7 hb7)
              exact ⟨⟨j + 1, v7, rfl, hlt'.out, congrArg (Value.int .i64) (by rw [hwj]; omega), by rw [hsn.out]; exact hown7, hb6.out.trans hb7⟩, meas_up k j hlt'.out hwj⟩
            · obtain rfl : j = k := by omega
              have j1 : ¬ (j : Int) < (j : Int) := by omega
              have hback := own_back_any (P := Tryd.prog) wr w2.heap.size 68 9 5 _ _ _ Tryd.underlying68 Tryd.underlying5 Tryd.underlying9 HO.out.1
              have hfin : Hid (WrE (.returned (.tuple #[.string (S (outB H B 0 j)), .int .i64 0, .int .i64 0])) j D C T M B ∧ Below w.heap.size w wr) := ⟨Or.inl ⟨⟨hpos.out, HGd.out⟩, H, σ, rfl, hR.out⟩, HB2.out.trans (HO.out.2.mono HB2.out.size)⟩
              clear hR HGd HO
              go_wp2_with fail
              refine bodyPost_ret_by (v := .tuple #[.string (S (outB H B 0 j)), .int .i64 0, .int .i64 0]) (by simp [results, Tryd.results17]; try rfl) rfl hfin.out
        | succ i =>
          have i0 : (0 : Int) ≤ (i : Int) := Int.natCast_nonneg _
          have i1 : (i : Int) < (k : Int) := Int.ofNat_lt.2 hK
          have ei : (((i + 1 : Nat) : Int) - 1) = (i : Int) := by omega
          rw [ei]
          obtain ⟨b, off, rfl, c0, c1, c2, c3, c4⟩ := ((HG.out.1.below HB1.out).below HI.out.2.2.2.2) i hK
          obtain ⟨gd1, gd2, gd3, gd4, gd5, gd6, _⟩ := HGd.out i hK
          have hLe := spL_le hK HI.out.1
          have hsb := HG.out.2.1
          obtain ⟨d, hd⟩ : ∃ d : Nat, D i = (d : Int) := ⟨(D i).toNat, by omega⟩
          obtain ⟨cl, hcl⟩ : ∃ d : Nat, C i = (d : Int) := ⟨(C i).toNat, by omega⟩
          obtain ⟨t, ht⟩ : ∃ d : Nat, T i = (d : Int) := ⟨(T i).toNat, by omega⟩
          obtain ⟨e1, e2⟩ := ms_len hK HI.out.1 HGd.out d hd
          obtain ⟨L, hL⟩ : ∃ L, spL D M B σ i = L := ⟨_, rfl⟩
          obtain ⟨H', q1, q2⟩ := ms_step hK HI.out.1 HGd.out hsb HI.out.2.1 d hd L hL
          have hLm : Hid ((M i = true → σ.getD (d + 1) 0 = L) ∧ (M i = false → (B i).size = L)) := by
            unfold Hid
            have hdn : (D i).toNat = d := by omega
            refine ⟨fun hM => ?_, fun hM => ?_⟩
            · rw [← hL]; unfold spL BhSpM.len; rw [hM, if_pos rfl, hdn]
            · rw [← hL]; unfold spL BhSpM.len; rw [hM]; rfl
          have hσe : Hid (M i = false → σ = σ.set (d + 1) 0) := fun hM => by rw [← e2, hM]; rfl
          rw [hL] at e1 hLe
          have hL64 : L ≤ 67108864 := Nat.le_trans hLe.1 hsb
          have hσ : Hid (σ.length = 66) := HI.out.1.1
          obtain ⟨x, hx⟩ : ∃ x, σ.getD (d + 1) 0 = x := ⟨_, rfl⟩
          have hx' : Hid (σ.getD (d + 1) 0 = x) := hx
          obtain ⟨y, hy⟩ : ∃ y, (σ.set (d + 1) 0).getD d 0 = y := ⟨_, rfl⟩
          have hy' : Hid ((σ.set (d + 1) 0).getD d 0 = y) := hy
          have hyb : y ≤ 67108864 := by
            rw [← hy, BhSpM.getD_set_other _ _ _ _ (by omega)]
            exact Nat.le_trans (hLe.2 d) hsb
          obtain ⟨s, hs⟩ : ∃ s, B i = s := ⟨_, rfl⟩
          obtain ⟨m, hm⟩ : ∃ m, M i = m := ⟨_, rfl⟩
          rw [hs] at c4
          rw [hd] at c0
          rw [hcl] at c1
          rw [hm] at c2
          rw [ht] at c3
          rw [hm, hs, hx] at hLm
          rw [hm] at hσe
          have he64 : d ≤ 64 := by omega
          have hll := ll_le L
          have wd : Hid _ := wr_one d (by omega)
          have hct : Hid (cl ≤ 3 ∧ t ≤ 30 ∧ L ≤ 67108864) := ⟨by omega, by omega, hL64⟩
          have w3 : Hid _ := wr_sum y (2 + ll L) (y + (2 + ll L)) rfl (by omega)
          have w4 : Hid _ := wr_sum (y + (2 + ll L)) L (y + (2 + ll L) + L) rfl (by omega)
          have wp' : Hid _ := wr_pred i k hK HG.out.2.2
          have HM : Hid (MsG w1 wr k (i + 1) σ Ls) := HI.out.2.2
          have hin : Hid (i < k) := hK
          have HF : Hid (∀ W, MsG w1 W k i ((σ.set (d + 1) 0).set d (y + (2 + ll L) + L)) (updL Ls i L) → SpI k i D C T M B ((σ.set (d + 1) 0).set d (y + (2 + ll L) + L)) H' ∧ (∀ j, i ≤ j → j < k → HSh C T M (updL Ls i L) H' j) ∧ MsG w1 W k i ((σ.set (d + 1) 0).set d (y + (2 + ll L) + L)) (updL Ls i L)) := fun W hW => by
            rw [hy] at q1
            exact ⟨q1, q2, hW⟩
          have hHS : Hid (∀ W, Calls Tryd.prog 39 #[.int .i64 (cl : Int), .bool m, .int .i64 (t : Int), .int .i64 (L : Int)] W fun r w' => ∃ v', r = .returned v' ∧ Own w' W.heap.size v' (fb cl m t :: lenB L) ∧ Below W.heap.size W w') := fun W => refHeader_any cl t m L W hct.out.1 hct.out.2.1 (by have := hct.out.2.2; omega)
          have hLen : Hid ((fb cl m t :: lenB L).length = 2 + ll L) := by unfold Hid; rw [List.length_cons, lenB_len]; omega
          have hL4 : ¬ (L : Int) > 4294967295 := by omega
          have d0 : (0 : Int) ≤ (d : Int) := Int.natCast_nonneg _
          have d1 : (d : Int) < 66 := by omega
          have d2 : (0 : Int) ≤ ((d + 1 : Nat) : Int) := Int.natCast_nonneg _
          have d3 : ((d + 1 : Nat) : Int) < 66 := by omega
          have he66 : Hid (d + 1 < 66 ∧ d < 66) := ⟨by omega, by omega⟩
          have hgl : Hid (w1.heap.size + 1 < wr.heap.size) := HM.out.2.1.lt
          obtain ⟨ds, hds⟩ : ∃ ds, ds = d + 1 := ⟨_, rfl⟩
          rw [← hds] at wd d2 d3
          have hds' : Hid (ds = d + 1) := hds
          obtain ⟨h2, hh2⟩ : ∃ h2, h2 = 2 + ll L := ⟨_, rfl⟩
          rw [← hh2] at w3 w4 HF hLen
          obtain ⟨yh, hyh⟩ : ∃ z, z = y + h2 := ⟨_, rfl⟩
          rw [← hyh] at w3 w4 HF
          obtain ⟨uu, huu⟩ : ∃ uu, uu = yh + L := ⟨_, rfl⟩
          rw [← huu] at w4 HF
          obtain ⟨wd1, wd2⟩ := wd.out
          obtain ⟨w31, w32⟩ := w3.out
          obtain ⟨w41, w42⟩ := w4.out
          have wp := wp'.out
          clear wd w3 w4 wp'
          clear HI HG HGd hK hLe hsb gd1 gd2 gd3 gd4 gd5 gd6 e1 e2 hL hL64 hx hy hyb hs hm hd hcl ht he64 hll hds hh2 hyh huu q1 q2
          have HX : Hid (Box (wr.alloc (.cells #[.int .i64 (d : Int), .int .i64 (cl : Int), .bool m, .int .i64 (t : Int), .string s] 38)) wr.heap.size 38 #[.int .i64 (d : Int), .int .i64 (cl : Int), .bool m, .int .i64 (t : Int), .string s]) := Box.new _ _ _
          have HM1 : Hid (MsG w1 (wr.alloc (.cells #[.int .i64 (d : Int), .int .i64 (cl : Int), .bool m, .int .i64 (t : Int), .string s] 38)) k (i + 1) σ Ls) := HM.out.of ((Below.refl _ _).alloc (Nat.le_refl _) _)
          go_upto_region 17 with fail
          clear c0 c1 c2 c3 c4 HM
          obtain ⟨W1, hW1⟩ : ∃ W1, wr.alloc (.cells #[.int .i64 (d : Int), .int .i64 (cl : Int), .bool m, .int .i64 (t : Int), .string s] 38) = W1 := ⟨_, rfl⟩
          rw [hW1] at HX HM1 ⊢
          obtain ⟨g, hg⟩ : ∃ g, wr.heap.size = g := ⟨_, rfl⟩
          rw [hg] at HX hgl ⊢
          clear hW1 hg
          obtain ⟨xl, l1, l2⟩ := HM1.out.2.1.any i hin.out
          have b4 := (at_of HX.out (j := 4) (v := .string s) rfl).1
          have b2 := (at_of HX.out (j := 2) (v := .bool m) rfl).1
          go_upto_region 18 with fail
          have HM2 : Hid (MsG w1 (W1.setCell ⟨w1.heap.size + 1, i, none⟩ (.int .i64 (s.size : Int))) k i σ (updL Ls i s.size)) := HM1.out.len hin.out s.size
          have HX2 : Hid (Box (W1.setCell ⟨w1.heap.size + 1, i, none⟩ (.int .i64 (s.size : Int))) g 38 #[.int .i64 (d : Int), .int .i64 (cl : Int), .bool m, .int .i64 (t : Int), .string s]) := box_set HX.out (by have := hgl.out; omega)
          clear HM1 HX b2 b4 l1 l2
          obtain ⟨W2, hW2⟩ : ∃ W2, W1.setCell ⟨w1.heap.size + 1, i, none⟩ (.int .i64 (s.size : Int)) = W2 := ⟨_, rfl⟩
          rw [hW2] at HM2 HX2 ⊢
          clear hW2
          have b0 := (at_of HX2.out (j := 0) (v := .int .i64 (d : Int)) rfl).1
          have b2 := (at_of HX2.out (j := 2) (v := .bool m) rfl).1
          obtain ⟨s1, s2⟩ := HM2.out.1.at ds (by rw [hds'.out]; exact he66.out.1)
          rw [hds'.out, hx'.out, ← hds'.out] at s1
          obtain ⟨xl, l1, l2⟩ := HM2.out.2.1.any i hin.out
          have key : m = true ∨ m = false := by cases m <;> simp
          rcases key with rfl | rfl
          case' inl =>
            go_upto_region 20 with fail
            have HM3 : Hid (MsG w1 (W2.setCell ⟨w1.heap.size + 1, i, none⟩ (.int .i64 (x : Int))) k i σ (updL Ls i L)) := by
              have := HM2.out.len2 _ hin.out x
              have e := hLm.out.1 rfl
              rw [← e]
              exact this
            have HX3 : Hid (Box (W2.setCell ⟨w1.heap.size + 1, i, none⟩ (.int .i64 (x : Int))) g 38 #[.int .i64 (d : Int), .int .i64 (cl : Int), .bool true, .int .i64 (t : Int), .string s]) := box_set HX2.out (by have := hgl.out; omega)
            clear HM2 HX2 b0 b2 s1 s2 l1 l2
            obtain ⟨W3, hW3⟩ : ∃ W3, W2.setCell ⟨w1.heap.size + 1, i, none⟩ (.int .i64 (x : Int)) = W3 := ⟨_, rfl⟩
            rw [hW3] at HM3 HX3 ⊢
            clear hW3
            have b0 := (at_of HX3.out (j := 0) (v := .int .i64 (d : Int)) rfl).1
            obtain ⟨s1, s2⟩ := HM3.out.1.at ds (by rw [hds'.out]; exact he66.out.1)
            go_upto_region 21 with fail
            have HM4 : Hid (MsG w1 (W3.setCell ⟨w1.heap.size, ds, none⟩ (.int .i64 0)) k i (σ.set (d + 1) 0) (updL Ls i L)) := by
              have := HM3.out.num hσ.out (d + 1) he66.out.1 0
              rw [← hds'.out] at this ⊢
              exact this
            have HX4 : Hid (Box (W3.setCell ⟨w1.heap.size, ds, none⟩ (.int .i64 0)) g 38 #[.int .i64 (d : Int), .int .i64 (cl : Int), .bool true, .int .i64 (t : Int), .string s]) := box_set HX3.out (by have := hgl.out; omega)
            clear HM3 HX3 b0 s1 s2
            obtain ⟨W4, hW4⟩ : ∃ W4, W3.setCell ⟨w1.heap.size, ds, none⟩ (.int .i64 0) = W4 := ⟨_, rfl⟩
            rw [hW4] at HM4 HX4 ⊢
            clear hW4 hLm hσe
            obtain ⟨m, hm⟩ : ∃ m, true = m := ⟨_, rfl⟩
            rw [hm] at HX4 hHS hLen
            clear hm
          case' inr =>
            go_upto_region 21 with fail
            have HM4 : Hid (MsG w1 W2 k i (σ.set (d + 1) 0) (updL Ls i L)) := by
              have e := hLm.out.2 rfl
              have := HM2.out
              rw [e, hσe.out rfl] at this
              exact this
            have HX4 := HX2
            clear HM2 HX2 b0 b2 s1 s2 l1 l2
            obtain ⟨W4, hW4⟩ : ∃ W4, W2 = W4 := ⟨_, rfl⟩
            rw [hW4] at HM4 HX4 ⊢
            clear hW4 hLm hσe
            obtain ⟨m, hm⟩ : ∃ m, false = m := ⟨_, rfl⟩
            rw [hm] at HX4 hHS hLen
            clear hm
          all_goals
            have lA := HM4.out.2.1.at i (Nat.le_refl _) hin.out
            have eL : updL Ls i L i = L := by unfold updL; rw [if_pos rfl]
            rw [eL] at lA
            clear eL
            go_upto_region 23 with fail
            have b1 := (at_of HX4.out (j := 1) (v := .int .i64 (cl : Int)) rfl).1
            have b3 := (at_of HX4.out (j := 3) (v := .int .i64 (t : Int)) rfl).1
            have b2 : W4.cell? ⟨g, 2, none⟩ = some (.bool m) := (at_of HX4.out (j := 2) rfl).1
            have hgW : Hid (g < W4.heap.size ∧ w1.heap.size + 1 < W4.heap.size) := ⟨HX4.out.lt, HM4.out.2.1.lt⟩
            have hSf : Hid (∀ w5, Below W4.drew.heap.size W4.drew w5 → w5.cell? ⟨g, 1, none⟩ = some (.int .i64 (cl : Int)) ∧ w5.cell? ⟨g, 2, none⟩ = some (.bool m) ∧ w5.cell? ⟨g, 3, none⟩ = some (.int .i64 (t : Int)) ∧ w5.cell? ⟨w1.heap.size + 1, i, none⟩ = some (.int .i64 (L : Int))) := fun w5 hb5 => ⟨(hb5.cell hgW.out.1).trans b1, (hb5.cell hgW.out.1).trans b2, (hb5.cell hgW.out.1).trans b3, (hb5.cell hgW.out.2).trans lA⟩
            go_region_held3 (fun w' => w'.cell? ⟨g, 1, none⟩ = some (.int .i64 (cl : Int)) ∧ w'.cell? ⟨g, 2, none⟩ = some (.bool m) ∧ w'.cell? ⟨g, 3, none⟩ = some (.int .i64 (t : Int)) ∧ w'.cell? ⟨w1.heap.size + 1, i, none⟩ = some (.int .i64 (L : Int)))
              (first | exact ⟨b1, b2, b3, lA⟩ | exact hS5)
              (first | (go_at_call 39; refine (hHS.out _).mono ?_; rintro r w5 ⟨v5, rfl, ho5, hb5⟩; have hS5 := hSf.out w5 hb5))
            obtain ⟨a5, c5, hv5⟩ := own_slice ho5
            rw [hLen.out] at hv5
            subst hv5
            have HM5 : Hid (MsG w1 w5 k i (σ.set (d + 1) 0) (updL Ls i L)) := HM4.out.drew.of hb5
            have HX5 : Hid (Box w5 g 38 #[.int .i64 (d : Int), .int .i64 (cl : Int), .bool m, .int .i64 (t : Int), .string s]) := HX4.out.of (hb5.block _ hgW.out.1)
            have l5 := hS5.2.2.2
            clear hS5 hSf HM4 HX4 b1 b2 b3 lA hHS ho5 hb5 hgW
            obtain ⟨W5, hW5⟩ : ∃ W5, w5 = W5 := ⟨_, rfl⟩
            rw [hW5] at HM5 HX5 l5 ⊢
            clear hW5
            obtain ⟨v1, v2⟩ := HM5.out.1.at d he66.out.2
            rw [hy'.out] at v1
            have v0 := (at_of HX5.out (j := 0) (v := .int .i64 (d : Int)) rfl).1
            have v3 : W5.drew.cell? ⟨w1.heap.size, d, none⟩ = some (.int .i64 (y : Int)) := v1
            have v4 : W5.drew.frozen? ⟨w1.heap.size, d, none⟩ = false := v2
            have v5 : W5.drew.cell? ⟨g, 0, none⟩ = some (.int .i64 (d : Int)) := v0
            have v6 : W5.drew.cell? ⟨w1.heap.size + 1, i, none⟩ = some (.int .i64 (L : Int)) := l5
            go_upto_region 24 with fail
            go_region
            have HM6 : Hid (MsG w1 (W5.drew.setCell ⟨w1.heap.size, d, none⟩ (.int .i64 (uu : Int))) k i ((σ.set (d + 1) 0).set d uu) (updL Ls i L)) := HM5.out.drew.num (by rw [List.length_set]; exact hσ.out) d he66.out.2 uu
            have hsp : (W5.setCell ⟨w1.heap.size, d, none⟩ (.int .i64 (uu : Int))).drew = W5.drew.setCell ⟨w1.heap.size, d, none⟩ (.int .i64 (uu : Int)) := rfl
            try rw [hsp]
            obtain ⟨W6, hW6⟩ : ∃ W6, W5.drew.setCell ⟨w1.heap.size, d, none⟩ (.int .i64 (uu : Int)) = W6 := ⟨_, rfl⟩
            rw [hW6] at HM6 ⊢
            clear hsp hW6 HM5 HX5 v0 v1 v2 v3 v4 v5 v6 l5
            go_wp2_with fail
            refine ⟨⟨i, _, _, _, Nat.le_of_lt hin.out, by rw [wp], HF.out _ HM6.out⟩, ?_⟩
            rw [wp]
            show ((i : Int) - 1 + 1).toNat < ((i : Int) + 1).toNat
            omega
end Go.Proofs.YtkiidlnimjjnlaaDoor
