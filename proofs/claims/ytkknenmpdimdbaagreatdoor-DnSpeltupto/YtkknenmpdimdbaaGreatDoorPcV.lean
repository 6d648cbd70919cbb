import Derived.Test.YtkknenmpdimdbaaGreatDoorPcH
namespace Go.Proofs.YtkknenmpdimdbaaGreatDoor
namespace Pa
open Go.RowKit
open TextMath (fold lo normal check wo unhex)
open Ke (mst PR)
open Bl (NRw Pk NxQ next_any)
set_option linter.unusedVariables false
set_option linter.unusedSimpArgs false
set_option maxRecDepth 100000

variable {w W W' : World} {a : Option Addr} {n c I : Nat}
theorem one_backB (W : World) (x : UInt8) : (convert 87 9 (.slice (some ⟨W.heap.size, 0, none⟩) 1 1)).run Tryz.prog (W.alloc (.cells #[.int .u8 (x.toNat : Int)] 5)) = .ok (.string (S [x])) (W.alloc (.cells #[.int .u8 (x.toNat : Int)] 5)) := by
  refine conv_back (P := Tryz.prog) _ _ _ _ W.heap.size 1 1 [x] Tryz.underlying87 Tryz.underlying5 Tryz.underlying9 rfl ?_
  intro j hj
  have : j = 0 := by simp at hj; omega
  subst this
  simp [go_sem]
/-- How far the text of a value is. -/
def VI (w : World) (a : Option Addr) (n c I k : Nat) (v : List UInt8) (i J : Nat) (ts : List (List UInt8)) (W : World) : Prop := SpL k v.length 0 (v.take i) ts ∧ ts.flatten.length ≤ 3 * i ∧ PkN w a n c J W ∧ J ≤ I + 1 + 2 * i
theorem VI.more {k i J J' : Nat} {v t : List UInt8} {ts : List (List UInt8)} (h : VI w a n c I k v i J ts W) (hi : i < v.length) (ht : SpB k v.length i v[i] t) (hP : PkN w a n c J' W') (hJ : J' ≤ J + 2) : VI w a n c I k v (i + 1) J' (ts ++ [t]) W' := by
  obtain ⟨h1, h2, h3, h4⟩ := h
  refine ⟨?_, ?_, hP, by omega⟩
  · rw [List.take_succ_eq_append_getElem hi]
    refine h1.snoc ?_
    rw [Nat.zero_add, List.length_take, Nat.min_eq_left (by omega)]
    exact ht
  · rw [List.flatten_append, List.length_append]
    have := ht.len.2
    have e : [t].flatten.length = t.length := by simp
    omega
theorem flat_snoc (ts : List (List UInt8)) (t : List UInt8) : S ts.flatten ++ S t = S (ts ++ [t]).flatten := by
  rw [S_app', List.flatten_append]
  simp
theorem mu_getD {v : List UInt8} {i : Nat} (hi : i < v.length) : mu v i = (v[i] == 0 || mst v.length i v[i]) := by
  unfold mu
  rw [List.getD_eq_getElem?_getD, List.getElem?_eq_getElem hi]
  rfl
theorem raw_lo {k i : Nat} {v : List UInt8} (hi : i < v.length) (hm : mu v i = false) (hk : v[i].toNat < 128 ∨ k ≠ 1) : SpB k v.length i v[i] [v[i]] := by
  rw [mu_getD hi] at hm
  simp only [Bool.or_eq_false_iff, beq_eq_false_iff_ne] at hm
  refine Or.inl ⟨rfl, hm.1, hm.2, fun h => ?_⟩
  rcases hk with h2 | h2
  · omega
  · exact h2
theorem mu_hi {i : Nat} {v : List UInt8} (hi : i < v.length) (h : 128 ≤ v[i].toNat) : mu v i = false := by
  rw [mu_getD hi]
  simp only [Bool.or_eq_false_iff, beq_eq_false_iff_ne]
  refine ⟨fun e => by rw [e] at h; exact absurd h (by decide), ?_⟩
  cases hm : mst v.length i v[i] with
  | false => rfl
  | true => have := es_low _ (mst_es hm); omega
theorem bs_mu {k i : Nat} {v : List UInt8} (hi : i < v.length) (hm : mu v i = true) (h0 : v[i] ≠ 0) : SpB k v.length i v[i] [92, v[i]] := by
  rw [mu_getD hi] at hm
  simp only [Bool.or_eq_true, beq_iff_eq] at hm
  exact Or.inr (Or.inl ⟨rfl, mst_es (hm.resolve_left h0)⟩)
theorem bs_es {k N i : Nat} {x : UInt8} (h : x = 35 ∨ x = 61 ∨ x = 32) : SpB k N i x [92, x] := Or.inr (Or.inl ⟨rfl, by rcases h with rfl | rfl | rfl <;> decide⟩)
set_option maxHeartbeats 16000000 in
theorem value_any (v : List UInt8) (hv : v.length ≤ 1048576) (h : PkN w a n c I W) (hr : NRw w a n) (hI : I ≤ 536870912) (hn : n ≤ 1073741824) :
    Calls Tryz.prog 28 #[.pointer (some ⟨w.heap.size, 0, none⟩), .string (S v)] W fun e w' => SvQ w a n c (I + 5 + 2 * v.length) v e w' := by
  have hN : Hid (Calls Tryz.prog 52 #[.pointer (some ⟨w.heap.size, 0, none⟩), .int .i64 6] W fun e w' => NxN w a n c I 6 W e w') := nextN 6 h hr (by decide) (by decide) (by omega) hn
  have hN5 : ∀ J X, J ≤ 1073741824 → PkN w a n c J X → Hid (Calls Tryz.prog 52 #[.pointer (some ⟨w.heap.size, 0, none⟩), .int .i64 5] X fun e w' => NxN w a n c J 5 X e w') := fun J X hJ hX => nextN 5 hX hr (by decide) (by decide) hJ hn
  have hPo : ∀ b J X, J ≤ 1073741824 → PkN w a n c J X → Hid (Calls Tryz.prog 55 #[.pointer (some ⟨w.heap.size, 0, none⟩), .int .u8 (UInt8.toNat b : Int)] X fun e w' => PoQ w a n c J b e w') := fun b J X hJ hX => pairOf_any b hX hr hJ hn
  have hHs : v.length < 128 → ∀ J X, J ≤ 1073741000 → PkN w a n c J X → Hid (Calls Tryz.prog 53 #[.pointer (some ⟨w.heap.size, 0, none⟩), .string (S v)] X fun e w' => SvQ w a n c (J + 4 + 2 * v.length) v e w') := fun h128 J X hJ hX => hashed_any v h128 hX hr hJ hn
  have hsl : Hid ((S v).data.toList = v) := S_l v
  have hss : (S v).size = v.length := S_size v
  obtain ⟨sv, hsv⟩ : ∃ sv, S v = sv := ⟨_, rfl⟩
  rw [hsv] at hsl hss ⊢
  simp only [hsv] at hHs
  have hs0 : (0 : Int) ≤ (sv.size : Int) := Int.natCast_nonneg _
  have hsb : (sv.size : Int) ≤ 1048576 := by omega
  have hMu : ∀ i X, i < sv.size → Hid (Calls Tryz.prog 54 #[.string sv, .int .i64 (i : Int)] X fun e w' => e = .returned (.bool (mu v i)) ∧ w' = X) := fun i X hi => by
    have h1 := must_any sv i X hi (by omega)
    rw [hsl.out] at h1
    exact h1
  have hss' : Hid (sv.size = v.length ∧ v.length ≤ 1048576 ∧ I ≤ 536870912) := ⟨hss, hv, hI⟩
  have hHs' : Hid (v.length < 128 → ∀ J X, J ≤ 1073741000 → PkN w a n c J X → Hid (Calls Tryz.prog 53 #[.pointer (some ⟨w.heap.size, 0, none⟩), .string sv] X fun e w' => SvQ w a n c (J + 4 + 2 * v.length) v e w')) := hHs
  obtain ⟨g, hg⟩ : ∃ g, w.heap.size = g := ⟨_, rfl⟩
  rw [hg] at hN hN5 hPo hHs' ⊢
  clear h hr hI hn hss hsv hv hHs
  go_enter Tryz.func28, Tryz.ntmps28
  go_wp2_with fail
  refine hN.out.mono ?_
  rintro e w1 ⟨k, I1, rfl, hk, hI1, hP1, _⟩
  have h1' : Hid (PkN w a n c I1 w1 ∧ I1 ≤ I + 1) := ⟨hP1, hI1⟩
  clear hN hI1 hP1 hk
  by_cases hh : k = 0 ∧ v.length < 128
  · obtain ⟨hk0, h128⟩ := hh
    have gk : ((k : Int) == 0) = true := by rw [hk0]; rfl
    have gl : (sv.size : Int) < 128 := by have := hss'.out.1; omega
    have hC := hHs'.out h128 I1 w1 (by have := h1'.out.2; have := hss'.out.2.2; omega) h1'.out.1
    have hI2 : Hid (I1 ≤ I + 1) := h1'.out.2
    clear hk0 hMu hPo hN5 h128 h1' hHs'
    go_wp2_with fail
    refine hC.out.mono ?_
    rintro e w2 ⟨t, I2, rfl, ht, htl, hI3, hP2⟩
    have hfin : Hid (SvQ w a n c (I + 5 + 2 * v.length) v (.returned (.string (S t))) w2) := ⟨t, I2, rfl, ht, htl, by have := hI2.out; omega, hP2⟩
    generalize S t = X at *
    clear hC ht htl hI3 hP2 hI2
    go_wp2_with fail
    go_ret
    exact hfin.out
  · have hgo : Hid (VI w a n c I k v 0 I1 [] w1) := ⟨trivial, Nat.zero_le _, h1'.out.1, by have := h1'.out.2; omega⟩
    have gl : ((k : Int) == 0) = false ∨ (((k : Int) == 0) = true ∧ ¬ (sv.size : Int) < 128) := by
      by_cases hk0 : k = 0
      · exact Or.inr ⟨by rw [hk0]; rfl, fun h => hh ⟨hk0, by have := hss'.out.1; omega⟩⟩
      · exact Or.inl (by rw [beq_eq_false_iff_ne]; omega)
    clear hh h1' hHs'
    rcases gl with gl | ⟨gl, gl2⟩
    · go_wp2_with fail
      go_loopw [6, 7, 8, 9, 10, 11, 45, 67] (fun xv iv _ _ _ _ _ _ wr => ∃ (i J : Nat) (ts : List (List UInt8)), i ≤ sv.size ∧ iv = .int .i64 (i : Int) ∧ xv = .string (S ts.flatten) ∧ Hid (VI w a n c I k v i J ts wr)) (fun _ iv _ _ _ _ _ _ _ => sv.size - (intOf iv).toNat)
      case atStart => exact ⟨0, I1, [], Nat.zero_le _, rfl, rfl, hgo.out⟩
      case round =>
        obtain ⟨i, J, ts, hi, rfl, rfl, hQ⟩ := hrel
        clear hgo
        have i0 : (0 : Int) ≤ (i : Int) := Int.natCast_nonneg _
        have hxz : (S ts.flatten).size ≤ 3145728 := by rw [S_size]; have := hQ.out.2.1; have := hss'.out; omega
        by_cases hlt : i < sv.size
        · have i1 : (i : Int) < (sv.size : Int) := Int.ofNat_lt.2 hlt
          have hvi : Hid (i < v.length) := by unfold Hid; rw [← hss'.out.1]; exact hlt
          have hm1 := hMu i wr hlt
          have hn1 := hN5 J wr (by have := hQ.out.2.2.2; have := hss'.out; omega) hQ.out.2.2.1
          obtain ⟨x, hx⟩ : ∃ x, sv[i] = x := ⟨_, rfl⟩
          have hxv : Hid (v[i]'hvi.out = x) := by
            unfold Hid
            have h1 : sv.data.toList[i]'(by rw [hsl.out]; exact hvi.out) = v[i]'hvi.out := by simp only [hsl.out]
            rw [← h1, ← hx]
            rfl
          obtain ⟨X, hX⟩ : ∃ X, S ts.flatten = X := ⟨_, rfl⟩
          have hX' : Hid (S ts.flatten = X) := hX
          rw [hX] at hxz ⊢
          obtain ⟨m, hm⟩ : ∃ m, mu v i = m := ⟨_, rfl⟩
          have hm' : Hid (mu v i = m) := hm
          rw [hm] at hm1
          have x0 : (0 : Int) ≤ (x.toNat : Int) := Int.natCast_nonneg _
          have hlt' : Hid (i < sv.size) := hlt
          clear hX hi hMu hN5 hm
          go_wp2_with (go_at_call 54; refine hm1.out.mono ?_; rintro e w' ⟨rfl, hww⟩; obtain rfl := hww.symm; clear hww)
          refine hn1.out.mono ?_
          rintro e w3 ⟨how, J2, rfl, hhow, hJ2, hP3, _⟩
          have h3' : Hid (PkN w a n c J2 w3 ∧ J2 ≤ J + 1) := ⟨hP3, hJ2⟩
          have h0 : (0 : Int) ≤ (how : Int) := Int.natCast_nonneg _
          clear hn1 hm1 hJ2 hP3 hhow
          clear hx hlt
          by_cases hc128 : 128 ≤ x.toNat
          · have g128 : (128 : Int) ≤ (x.toNat : Int) := by omega
            have g128' : ¬ (x.toNat : Int) < 128 := by omega
            have gz : ((x.toNat : Int) != 0) = true := by simp; omega
            by_cases hk1 : k = 1
            · have gk1 : ((k : Int) != 1) = false := by rw [hk1]; rfl
              have hpp := hPo x J2 w3 (by have := h3'.out.2; have := hQ.out.2.2.2; have := hss'.out; have := hlt'.out; omega) h3'.out.1
              have hkk : Hid (128 ≤ x.toNat → k = 1) := fun _ => hk1
              clear hPo hm' hk1 hc128
              go_wp2_with fail
              refine hpp.out.mono ?_
              rintro e w4 ⟨x1, y1, J3, rfl, hxy, hJ3, hP4⟩
              have hfin : Hid (VI w a n c I k v (i + 1) J3 (ts ++ [[92, x1, y1]]) w4) := hQ.out.more hvi.out (Or.inr (Or.inr ⟨x1, y1, rfl, by rw [hxv.out]; exact hxy, by rw [hxv.out]; exact hkk.out⟩)) hP4 (by have := h3'.out.2; omega)
              have hz5 : (S [x1, y1]).size = 2 := S_size _
              have ht5 : Hid ((X ++ ⟨#[92]⟩) ++ S [x1, y1] = S (ts ++ [[92, x1, y1]]).flatten) := by unfold Hid; rw [← hX'.out, show (⟨#[92]⟩ : ByteArray) = S [92] from rfl, S_app', S_app', ← flat_snoc, S_app']; simp
              obtain ⟨d5, hd5⟩ : ∃ d5, S [x1, y1] = d5 := ⟨_, rfl⟩
              rw [hd5] at hz5 ht5 ⊢
              have hc4 : ¬ X.size + 1 > 9223372036854775807 := by omega
              have hc6 : (X ++ (⟨#[92]⟩ : ByteArray)).size = X.size + 1 := by rw [ByteArray.size_append]; rfl
              have hc5 : ¬ (X ++ (⟨#[92]⟩ : ByteArray)).size + d5.size > 9223372036854775807 := by rw [hc6]; omega
              clear hpp hxy hJ3 hP4 hd5 hX' hQ h3' hc6 hkk
              go_wp2_with fail
              rw [ht5.out]
              go_roundw
              case rel => exact ⟨i + 1, J3, ts ++ [[92, x1, y1]], hlt'.out, by go_num, rfl, hfin⟩
              case measure => have := hlt'.out; simp [intOf]; omega
            · have gk1 : ((k : Int) != 1) = true := by simp; omega
              have hk1' : Hid (k ≠ 1) := hk1
              have hc128' : Hid (128 ≤ x.toNat) := hc128
              clear hk1 hc128
              have hcv := one_backB w3 x
              have hfin : Hid (VI w a n c I k v (i + 1) J2 (ts ++ [[x]]) (w3.alloc (.cells #[.int .u8 (x.toNat : Int)] 5))) := hQ.out.more hvi.out (by have h1 := raw_lo (k := k) hvi.out (mu_hi hvi.out (by rw [hxv.out]; exact hc128'.out)) (Or.inr hk1'.out); rw [hxv.out] at h1 ⊢; exact h1) (h3'.out.1.below ((Below.refl _ _).alloc (Nat.le_refl _) _)) (by have := h3'.out.2; omega)
              have hz5 : (S [x]).size = 1 := S_size _
              have ht5 : Hid (X ++ S [x] = S (ts ++ [[x]]).flatten) := by unfold Hid; rw [← hX'.out]; exact flat_snoc _ _
              obtain ⟨d5, hd5⟩ : ∃ d5, S [x] = d5 := ⟨_, rfl⟩
              rw [hd5] at hz5 ht5 hcv
              have hc5 : ¬ X.size + d5.size > 9223372036854775807 := by omega
              clear hd5 hX' hQ hPo h3' hm' hk1' hc128'
              go_wp2_with fail
              rw [ht5.out]
              go_roundw
              case rel => exact ⟨i + 1, J2, ts ++ [[x]], hlt'.out, by go_num, rfl, hfin⟩
              case measure => have := hlt'.out; simp [intOf]; omega
          · have g128 : ¬ (128 : Int) ≤ (x.toNat : Int) := by omega
            have g128' : (x.toNat : Int) < 128 := by omega
            have hc128' : Hid (x.toNat < 128) := by unfold Hid; omega
            clear hc128
            cases m with
            | true =>
              by_cases hz : x = 0
              · have gz : ((x.toNat : Int) != 0) = false := by rw [hz]; rfl
                clear hz
                have hpp := hPo x J2 w3 (by have := h3'.out.2; have := hQ.out.2.2.2; have := hss'.out; have := hlt'.out; omega) h3'.out.1
                have hkk : Hid (128 ≤ x.toNat → k = 1) := fun h => by have := hc128'.out; omega
                clear hPo hm'
                go_wp2_with fail
                refine hpp.out.mono ?_
                rintro e w4 ⟨x1, y1, J3, rfl, hxy, hJ3, hP4⟩
                have hfin : Hid (VI w a n c I k v (i + 1) J3 (ts ++ [[92, x1, y1]]) w4) := hQ.out.more hvi.out (Or.inr (Or.inr ⟨x1, y1, rfl, by rw [hxv.out]; exact hxy, by rw [hxv.out]; exact hkk.out⟩)) hP4 (by have := h3'.out.2; omega)
                have hz5 : (S [x1, y1]).size = 2 := S_size _
                have ht5 : Hid ((X ++ ⟨#[92]⟩) ++ S [x1, y1] = S (ts ++ [[92, x1, y1]]).flatten) := by unfold Hid; rw [← hX'.out, show (⟨#[92]⟩ : ByteArray) = S [92] from rfl, S_app', S_app', ← flat_snoc, S_app']; simp
                obtain ⟨d5, hd5⟩ : ∃ d5, S [x1, y1] = d5 := ⟨_, rfl⟩
                rw [hd5] at hz5 ht5 ⊢
                have hc4 : ¬ X.size + 1 > 9223372036854775807 := by omega
                have hc6 : (X ++ (⟨#[92]⟩ : ByteArray)).size = X.size + 1 := by rw [ByteArray.size_append]; rfl
                have hc5 : ¬ (X ++ (⟨#[92]⟩ : ByteArray)).size + d5.size > 9223372036854775807 := by rw [hc6]; omega
                clear hpp hxy hJ3 hP4 hd5 hX' hQ h3' hc6 hkk
                go_wp2_with fail
                rw [ht5.out]
                go_roundw
                case rel => exact ⟨i + 1, J3, ts ++ [[92, x1, y1]], hlt'.out, by go_num, rfl, hfin⟩
                case measure => have := hlt'.out; simp [intOf]; omega
              · have gz : ((x.toNat : Int) != 0) = true := by rw [bne_iff_ne]; exact fun h => hz (UInt8.toNat_inj.1 (by show x.toNat = 0; omega))
                have hz' : Hid (x ≠ 0) := hz
                clear hz
                by_cases hh0 : how = 0
                · have gh : ¬ (0 : Int) < (how : Int) := by omega
                  clear hh0
                  have hpp := hPo x J2 w3 (by have := h3'.out.2; have := hQ.out.2.2.2; have := hss'.out; have := hlt'.out; omega) h3'.out.1
                  have hkk : Hid (128 ≤ x.toNat → k = 1) := fun h => by have := hc128'.out; omega
                  clear hPo hm' hz'
                  go_wp2_with fail
                  refine hpp.out.mono ?_
                  rintro e w4 ⟨x1, y1, J3, rfl, hxy, hJ3, hP4⟩
                  have hfin : Hid (VI w a n c I k v (i + 1) J3 (ts ++ [[92, x1, y1]]) w4) := hQ.out.more hvi.out (Or.inr (Or.inr ⟨x1, y1, rfl, by rw [hxv.out]; exact hxy, by rw [hxv.out]; exact hkk.out⟩)) hP4 (by have := h3'.out.2; omega)
                  have hz5 : (S [x1, y1]).size = 2 := S_size _
                  have ht5 : Hid ((X ++ ⟨#[92]⟩) ++ S [x1, y1] = S (ts ++ [[92, x1, y1]]).flatten) := by unfold Hid; rw [← hX'.out, show (⟨#[92]⟩ : ByteArray) = S [92] from rfl, S_app', S_app', ← flat_snoc, S_app']; simp
                  obtain ⟨d5, hd5⟩ : ∃ d5, S [x1, y1] = d5 := ⟨_, rfl⟩
                  rw [hd5] at hz5 ht5 ⊢
                  have hc4 : ¬ X.size + 1 > 9223372036854775807 := by omega
                  have hc6 : (X ++ (⟨#[92]⟩ : ByteArray)).size = X.size + 1 := by rw [ByteArray.size_append]; rfl
                  have hc5 : ¬ (X ++ (⟨#[92]⟩ : ByteArray)).size + d5.size > 9223372036854775807 := by rw [hc6]; omega
                  clear hpp hxy hJ3 hP4 hd5 hX' hQ h3' hc6 hkk
                  go_wp2_with fail
                  rw [ht5.out]
                  go_roundw
                  case rel => exact ⟨i + 1, J3, ts ++ [[92, x1, y1]], hlt'.out, by go_num, rfl, hfin⟩
                  case measure => have := hlt'.out; simp [intOf]; omega
                · have gh : (0 : Int) < (how : Int) := by omega
                  clear hh0
                  have hcv := one_backB w3 x
                  have hfin : Hid (VI w a n c I k v (i + 1) J2 (ts ++ [[92, x]]) (w3.alloc (.cells #[.int .u8 (x.toNat : Int)] 5))) := hQ.out.more hvi.out (by have h1 := bs_mu (k := k) hvi.out hm'.out (by rw [hxv.out]; exact hz'.out); rw [hxv.out] at h1 ⊢; exact h1) (h3'.out.1.below ((Below.refl _ _).alloc (Nat.le_refl _) _)) (by have := h3'.out.2; omega)
                  have hz5 : (S [x]).size = 1 := S_size _
                  have ht5 : Hid ((X ++ ⟨#[92]⟩) ++ S [x] = S (ts ++ [[92, x]]).flatten) := by unfold Hid; rw [← hX'.out, show (⟨#[92]⟩ : ByteArray) = S [92] from rfl, S_app', S_app', ← flat_snoc, S_app']; simp
                  obtain ⟨d5, hd5⟩ : ∃ d5, S [x] = d5 := ⟨_, rfl⟩
                  rw [hd5] at hz5 ht5 hcv
                  have hc4 : ¬ X.size + 1 > 9223372036854775807 := by omega
                  have hc6 : (X ++ (⟨#[92]⟩ : ByteArray)).size = X.size + 1 := by rw [ByteArray.size_append]; rfl
                  have hc5 : ¬ (X ++ (⟨#[92]⟩ : ByteArray)).size + d5.size > 9223372036854775807 := by rw [hc6]; omega
                  clear hd5 hX' hQ hPo h3' hc6 hm' hz'
                  go_wp2_with fail
                  rw [ht5.out]
                  go_roundw
                  case rel => exact ⟨i + 1, J2, ts ++ [[92, x]], hlt'.out, by go_num, rfl, hfin⟩
                  case measure => have := hlt'.out; simp [intOf]; omega
            | false =>
              by_cases hh2 : 1 < how
              · have gh1 : (1 : Int) < (how : Int) := by omega
                clear hh2
                have hcv := one_backB w3 x
                have hfin : Hid (VI w a n c I k v (i + 1) J2 (ts ++ [[x]]) (w3.alloc (.cells #[.int .u8 (x.toNat : Int)] 5))) := hQ.out.more hvi.out (by have h1 := raw_lo (k := k) hvi.out hm'.out (Or.inl (by rw [hxv.out]; exact hc128'.out)); rw [hxv.out] at h1 ⊢; exact h1) (h3'.out.1.below ((Below.refl _ _).alloc (Nat.le_refl _) _)) (by have := h3'.out.2; omega)
                have hz5 : (S [x]).size = 1 := S_size _
                have ht5 : Hid (X ++ S [x] = S (ts ++ [[x]]).flatten) := by unfold Hid; rw [← hX'.out]; exact flat_snoc _ _
                obtain ⟨d5, hd5⟩ : ∃ d5, S [x] = d5 := ⟨_, rfl⟩
                rw [hd5] at hz5 ht5 hcv
                have hc5 : ¬ X.size + d5.size > 9223372036854775807 := by omega
                clear hd5 hX' hQ hPo h3' hm'
                go_wp2_with fail
                rw [ht5.out]
                go_roundw
                case rel => exact ⟨i + 1, J2, ts ++ [[x]], hlt'.out, by go_num, rfl, hfin⟩
                case measure => have := hlt'.out; simp [intOf]; omega
              · have gh1 : ¬ (1 : Int) < (how : Int) := by omega
                have hz : x ≠ 0 := by
                  intro e
                  have h1 := hm'.out
                  rw [mu_getD hvi.out, hxv.out, e] at h1
                  cases h1
                have gz : ((x.toNat : Int) != 0) = true := by rw [bne_iff_ne]; exact fun h => hz (UInt8.toNat_inj.1 (by show x.toNat = 0; omega))
                clear hz hh2
                by_cases hh0 : how = 0
                · have gh : ¬ (0 : Int) < (how : Int) := by omega
                  clear hh0
                  have hpp := hPo x J2 w3 (by have := h3'.out.2; have := hQ.out.2.2.2; have := hss'.out; have := hlt'.out; omega) h3'.out.1
                  have hkk : Hid (128 ≤ x.toNat → k = 1) := fun h => by have := hc128'.out; omega
                  clear hPo hm'
                  go_wp2_with fail
                  refine hpp.out.mono ?_
                  rintro e w4 ⟨x1, y1, J3, rfl, hxy, hJ3, hP4⟩
                  have hfin : Hid (VI w a n c I k v (i + 1) J3 (ts ++ [[92, x1, y1]]) w4) := hQ.out.more hvi.out (Or.inr (Or.inr ⟨x1, y1, rfl, by rw [hxv.out]; exact hxy, by rw [hxv.out]; exact hkk.out⟩)) hP4 (by have := h3'.out.2; omega)
                  have hz5 : (S [x1, y1]).size = 2 := S_size _
                  have ht5 : Hid ((X ++ ⟨#[92]⟩) ++ S [x1, y1] = S (ts ++ [[92, x1, y1]]).flatten) := by unfold Hid; rw [← hX'.out, show (⟨#[92]⟩ : ByteArray) = S [92] from rfl, S_app', S_app', ← flat_snoc, S_app']; simp
                  obtain ⟨d5, hd5⟩ : ∃ d5, S [x1, y1] = d5 := ⟨_, rfl⟩
                  rw [hd5] at hz5 ht5 ⊢
                  have hc4 : ¬ X.size + 1 > 9223372036854775807 := by omega
                  have hc6 : (X ++ (⟨#[92]⟩ : ByteArray)).size = X.size + 1 := by rw [ByteArray.size_append]; rfl
                  have hc5 : ¬ (X ++ (⟨#[92]⟩ : ByteArray)).size + d5.size > 9223372036854775807 := by rw [hc6]; omega
                  clear hpp hxy hJ3 hP4 hd5 hX' hQ h3' hc6 hkk
                  go_wp2_with fail
                  rw [ht5.out]
                  go_roundw
                  case rel => exact ⟨i + 1, J3, ts ++ [[92, x1, y1]], hlt'.out, by go_num, rfl, hfin⟩
                  case measure => have := hlt'.out; simp [intOf]; omega
                · have gh : (0 : Int) < (how : Int) := by omega
                  clear hh0
                  by_cases e35 : x = 35
                  · have g35 : ((x.toNat : Int) == 35) = true := by rw [e35]; rfl
                    have e35' : Hid (x = 35) := e35
                    clear e35
                    have hcv := one_backB w3 x
                    have hfin : Hid (VI w a n c I k v (i + 1) J2 (ts ++ [[92, x]]) (w3.alloc (.cells #[.int .u8 (x.toNat : Int)] 5))) := hQ.out.more hvi.out (by rw [hxv.out]; exact bs_es (Or.inl e35'.out)) (h3'.out.1.below ((Below.refl _ _).alloc (Nat.le_refl _) _)) (by have := h3'.out.2; omega)
                    have hz5 : (S [x]).size = 1 := S_size _
                    have ht5 : Hid ((X ++ ⟨#[92]⟩) ++ S [x] = S (ts ++ [[92, x]]).flatten) := by unfold Hid; rw [← hX'.out, show (⟨#[92]⟩ : ByteArray) = S [92] from rfl, S_app', S_app', ← flat_snoc, S_app']; simp
                    obtain ⟨d5, hd5⟩ : ∃ d5, S [x] = d5 := ⟨_, rfl⟩
                    rw [hd5] at hz5 ht5 hcv
                    have hc4 : ¬ X.size + 1 > 9223372036854775807 := by omega
                    have hc6 : (X ++ (⟨#[92]⟩ : ByteArray)).size = X.size + 1 := by rw [ByteArray.size_append]; rfl
                    have hc5 : ¬ (X ++ (⟨#[92]⟩ : ByteArray)).size + d5.size > 9223372036854775807 := by rw [hc6]; omega
                    clear hd5 hX' hQ hPo h3' hc6 hm' e35'
                    go_wp2_with fail
                    rw [ht5.out]
                    go_roundw
                    case rel => exact ⟨i + 1, J2, ts ++ [[92, x]], hlt'.out, by go_num, rfl, hfin⟩
                    case measure => have := hlt'.out; simp [intOf]; omega
                  · have g35 : ((x.toNat : Int) == 35) = false := by rw [beq_eq_false_iff_ne]; exact fun h => e35 (UInt8.toNat_inj.1 (by show x.toNat = 35; omega))
                    clear e35
                    by_cases e61 : x = 61
                    · have g61 : ((x.toNat : Int) == 61) = true := by rw [e61]; rfl
                      have e61' : Hid (x = 61) := e61
                      clear e61
                      have hcv := one_backB w3 x
                      have hfin : Hid (VI w a n c I k v (i + 1) J2 (ts ++ [[92, x]]) (w3.alloc (.cells #[.int .u8 (x.toNat : Int)] 5))) := hQ.out.more hvi.out (by rw [hxv.out]; exact bs_es (Or.inr (Or.inl e61'.out))) (h3'.out.1.below ((Below.refl _ _).alloc (Nat.le_refl _) _)) (by have := h3'.out.2; omega)
                      have hz5 : (S [x]).size = 1 := S_size _
                      have ht5 : Hid ((X ++ ⟨#[92]⟩) ++ S [x] = S (ts ++ [[92, x]]).flatten) := by unfold Hid; rw [← hX'.out, show (⟨#[92]⟩ : ByteArray) = S [92] from rfl, S_app', S_app', ← flat_snoc, S_app']; simp
                      obtain ⟨d5, hd5⟩ : ∃ d5, S [x] = d5 := ⟨_, rfl⟩
                      rw [hd5] at hz5 ht5 hcv
                      have hc4 : ¬ X.size + 1 > 9223372036854775807 := by omega
                      have hc6 : (X ++ (⟨#[92]⟩ : ByteArray)).size = X.size + 1 := by rw [ByteArray.size_append]; rfl
                      have hc5 : ¬ (X ++ (⟨#[92]⟩ : ByteArray)).size + d5.size > 9223372036854775807 := by rw [hc6]; omega
                      clear hd5 hX' hQ hPo h3' hc6 hm' e61'
                      go_wp2_with fail
                      rw [ht5.out]
                      go_roundw
                      case rel => exact ⟨i + 1, J2, ts ++ [[92, x]], hlt'.out, by go_num, rfl, hfin⟩
                      case measure => have := hlt'.out; simp [intOf]; omega
                    · have g61 : ((x.toNat : Int) == 61) = false := by rw [beq_eq_false_iff_ne]; exact fun h => e61 (UInt8.toNat_inj.1 (by show x.toNat = 61; omega))
                      clear e61
                      by_cases e32 : x = 32
                      · have g32 : ((x.toNat : Int) == 32) = true := by rw [e32]; rfl
                        have e32' : Hid (x = 32) := e32
                        clear e32
                        have hcv := one_backB w3 x
                        have hfin : Hid (VI w a n c I k v (i + 1) J2 (ts ++ [[92, x]]) (w3.alloc (.cells #[.int .u8 (x.toNat : Int)] 5))) := hQ.out.more hvi.out (by rw [hxv.out]; exact bs_es (Or.inr (Or.inr e32'.out))) (h3'.out.1.below ((Below.refl _ _).alloc (Nat.le_refl _) _)) (by have := h3'.out.2; omega)
                        have hz5 : (S [x]).size = 1 := S_size _
                        have ht5 : Hid ((X ++ ⟨#[92]⟩) ++ S [x] = S (ts ++ [[92, x]]).flatten) := by unfold Hid; rw [← hX'.out, show (⟨#[92]⟩ : ByteArray) = S [92] from rfl, S_app', S_app', ← flat_snoc, S_app']; simp
                        obtain ⟨d5, hd5⟩ : ∃ d5, S [x] = d5 := ⟨_, rfl⟩
                        rw [hd5] at hz5 ht5 hcv
                        have hc4 : ¬ X.size + 1 > 9223372036854775807 := by omega
                        have hc6 : (X ++ (⟨#[92]⟩ : ByteArray)).size = X.size + 1 := by rw [ByteArray.size_append]; rfl
                        have hc5 : ¬ (X ++ (⟨#[92]⟩ : ByteArray)).size + d5.size > 9223372036854775807 := by rw [hc6]; omega
                        clear hd5 hX' hQ hPo h3' hc6 hm' e32'
                        go_wp2_with fail
                        rw [ht5.out]
                        go_roundw
                        case rel => exact ⟨i + 1, J2, ts ++ [[92, x]], hlt'.out, by go_num, rfl, hfin⟩
                        case measure => have := hlt'.out; simp [intOf]; omega
                      · have g32 : ((x.toNat : Int) == 32) = false := by rw [beq_eq_false_iff_ne]; exact fun h => e32 (UInt8.toNat_inj.1 (by show x.toNat = 32; omega))
                        clear e32
                        have hpp := hPo x J2 w3 (by have := h3'.out.2; have := hQ.out.2.2.2; have := hss'.out; have := hlt'.out; omega) h3'.out.1
                        have hkk : Hid (128 ≤ x.toNat → k = 1) := fun h => by have := hc128'.out; omega
                        clear hPo hm'
                        go_wp2_with fail
                        refine hpp.out.mono ?_
                        rintro e w4 ⟨x1, y1, J3, rfl, hxy, hJ3, hP4⟩
                        have hfin : Hid (VI w a n c I k v (i + 1) J3 (ts ++ [[92, x1, y1]]) w4) := hQ.out.more hvi.out (Or.inr (Or.inr ⟨x1, y1, rfl, by rw [hxv.out]; exact hxy, by rw [hxv.out]; exact hkk.out⟩)) hP4 (by have := h3'.out.2; omega)
                        have hz5 : (S [x1, y1]).size = 2 := S_size _
                        have ht5 : Hid ((X ++ ⟨#[92]⟩) ++ S [x1, y1] = S (ts ++ [[92, x1, y1]]).flatten) := by unfold Hid; rw [← hX'.out, show (⟨#[92]⟩ : ByteArray) = S [92] from rfl, S_app', S_app', ← flat_snoc, S_app']; simp
                        obtain ⟨d5, hd5⟩ : ∃ d5, S [x1, y1] = d5 := ⟨_, rfl⟩
                        rw [hd5] at hz5 ht5 ⊢
                        have hc4 : ¬ X.size + 1 > 9223372036854775807 := by omega
                        have hc6 : (X ++ (⟨#[92]⟩ : ByteArray)).size = X.size + 1 := by rw [ByteArray.size_append]; rfl
                        have hc5 : ¬ (X ++ (⟨#[92]⟩ : ByteArray)).size + d5.size > 9223372036854775807 := by rw [hc6]; omega
                        clear hpp hxy hJ3 hP4 hd5 hX' hQ h3' hc6 hkk
                        go_wp2_with fail
                        rw [ht5.out]
                        go_roundw
                        case rel => exact ⟨i + 1, J3, ts ++ [[92, x1, y1]], hlt'.out, by go_num, rfl, hfin⟩
                        case measure => have := hlt'.out; simp [intOf]; omega
        · have e : sv.size = i := by omega
          have i1 : ¬ (i : Int) < (sv.size : Int) := by omega
          have hfin : Hid (SvQ w a n c (I + 5 + 2 * v.length) v (.returned (.string (S ts.flatten))) wr) := by
            have h1 := hQ.out.1
            rw [List.take_of_length_le (by rw [← hss'.out.1, e]; exact Nat.le_refl _)] at h1
            refine ⟨ts.flatten, J, rfl, Or.inl ⟨k, ts, h1, rfl⟩, ?_, ?_, hQ.out.2.2.1⟩
            · have := hQ.out.2.1; have := hss'.out.1; omega
            · have := hQ.out.2.2.2; have := hss'.out.1; omega
          generalize S ts.flatten = X at *
          clear hQ hi hlt e hPo hN5 hMu
          go_wp2_with fail
          go_ret
          exact hfin.out
    · go_wp2_with fail
      go_loopw [6, 7, 8, 9, 10, 11, 45, 67] (fun xv iv _ _ _ _ _ _ wr => ∃ (i J : Nat) (ts : List (List UInt8)), i ≤ sv.size ∧ iv = .int .i64 (i : Int) ∧ xv = .string (S ts.flatten) ∧ Hid (VI w a n c I k v i J ts wr)) (fun _ iv _ _ _ _ _ _ _ => sv.size - (intOf iv).toNat)
      case atStart => exact ⟨0, I1, [], Nat.zero_le _, rfl, rfl, hgo.out⟩
      case round =>
        obtain ⟨i, J, ts, hi, rfl, rfl, hQ⟩ := hrel
        clear hgo
        have i0 : (0 : Int) ≤ (i : Int) := Int.natCast_nonneg _
        have hxz : (S ts.flatten).size ≤ 3145728 := by rw [S_size]; have := hQ.out.2.1; have := hss'.out; omega
        by_cases hlt : i < sv.size
        · have i1 : (i : Int) < (sv.size : Int) := Int.ofNat_lt.2 hlt
          have hvi : Hid (i < v.length) := by unfold Hid; rw [← hss'.out.1]; exact hlt
          have hm1 := hMu i wr hlt
          have hn1 := hN5 J wr (by have := hQ.out.2.2.2; have := hss'.out; omega) hQ.out.2.2.1
          obtain ⟨x, hx⟩ : ∃ x, sv[i] = x := ⟨_, rfl⟩
          have hxv : Hid (v[i]'hvi.out = x) := by
            unfold Hid
            have h1 : sv.data.toList[i]'(by rw [hsl.out]; exact hvi.out) = v[i]'hvi.out := by simp only [hsl.out]
            rw [← h1, ← hx]
            rfl
          obtain ⟨X, hX⟩ : ∃ X, S ts.flatten = X := ⟨_, rfl⟩
          have hX' : Hid (S ts.flatten = X) := hX
          rw [hX] at hxz ⊢
          obtain ⟨m, hm⟩ : ∃ m, mu v i = m := ⟨_, rfl⟩
          have hm' : Hid (mu v i = m) := hm
          rw [hm] at hm1
          have x0 : (0 : Int) ≤ (x.toNat : Int) := Int.natCast_nonneg _
          have hlt' : Hid (i < sv.size) := hlt
          clear hX hi hMu hN5 hm
          go_wp2_with (go_at_call 54; refine hm1.out.mono ?_; rintro e w' ⟨rfl, hww⟩; obtain rfl := hww.symm; clear hww)
          refine hn1.out.mono ?_
          rintro e w3 ⟨how, J2, rfl, hhow, hJ2, hP3, _⟩
          have h3' : Hid (PkN w a n c J2 w3 ∧ J2 ≤ J + 1) := ⟨hP3, hJ2⟩
          have h0 : (0 : Int) ≤ (how : Int) := Int.natCast_nonneg _
          clear hn1 hm1 hJ2 hP3 hhow
          clear hx hlt
          by_cases hc128 : 128 ≤ x.toNat
          · have g128 : (128 : Int) ≤ (x.toNat : Int) := by omega
            have g128' : ¬ (x.toNat : Int) < 128 := by omega
            have gz : ((x.toNat : Int) != 0) = true := by simp; omega
            by_cases hk1 : k = 1
            · have gk1 : ((k : Int) != 1) = false := by rw [hk1]; rfl
              have hpp := hPo x J2 w3 (by have := h3'.out.2; have := hQ.out.2.2.2; have := hss'.out; have := hlt'.out; omega) h3'.out.1
              have hkk : Hid (128 ≤ x.toNat → k = 1) := fun _ => hk1
              clear hPo hm' hk1 hc128
              go_wp2_with fail
              refine hpp.out.mono ?_
              rintro e w4 ⟨x1, y1, J3, rfl, hxy, hJ3, hP4⟩
              have hfin : Hid (VI w a n c I k v (i + 1) J3 (ts ++ [[92, x1, y1]]) w4) := hQ.out.more hvi.out (Or.inr (Or.inr ⟨x1, y1, rfl, by rw [hxv.out]; exact hxy, by rw [hxv.out]; exact hkk.out⟩)) hP4 (by have := h3'.out.2; omega)
              have hz5 : (S [x1, y1]).size = 2 := S_size _
              have ht5 : Hid ((X ++ ⟨#[92]⟩) ++ S [x1, y1] = S (ts ++ [[92, x1, y1]]).flatten) := by unfold Hid; rw [← hX'.out, show (⟨#[92]⟩ : ByteArray) = S [92] from rfl, S_app', S_app', ← flat_snoc, S_app']; simp
              obtain ⟨d5, hd5⟩ : ∃ d5, S [x1, y1] = d5 := ⟨_, rfl⟩
              rw [hd5] at hz5 ht5 ⊢
              have hc4 : ¬ X.size + 1 > 9223372036854775807 := by omega
              have hc6 : (X ++ (⟨#[92]⟩ : ByteArray)).size = X.size + 1 := by rw [ByteArray.size_append]; rfl
              have hc5 : ¬ (X ++ (⟨#[92]⟩ : ByteArray)).size + d5.size > 9223372036854775807 := by rw [hc6]; omega
              clear hpp hxy hJ3 hP4 hd5 hX' hQ h3' hc6 hkk
              go_wp2_with fail
              rw [ht5.out]
              go_roundw
              case rel => exact ⟨i + 1, J3, ts ++ [[92, x1, y1]], hlt'.out, by go_num, rfl, hfin⟩
              case measure => have := hlt'.out; simp [intOf]; omega
            · have gk1 : ((k : Int) != 1) = true := by simp; omega
              have hk1' : Hid (k ≠ 1) := hk1
              have hc128' : Hid (128 ≤ x.toNat) := hc128
              clear hk1 hc128
              have hcv := one_backB w3 x
              have hfin : Hid (VI w a n c I k v (i + 1) J2 (ts ++ [[x]]) (w3.alloc (.cells #[.int .u8 (x.toNat : Int)] 5))) := hQ.out.more hvi.out (by have h1 := raw_lo (k := k) hvi.out (mu_hi hvi.out (by rw [hxv.out]; exact hc128'.out)) (Or.inr hk1'.out); rw [hxv.out] at h1 ⊢; exact h1) (h3'.out.1.below ((Below.refl _ _).alloc (Nat.le_refl _) _)) (by have := h3'.out.2; omega)
              have hz5 : (S [x]).size = 1 := S_size _
              have ht5 : Hid (X ++ S [x] = S (ts ++ [[x]]).flatten) := by unfold Hid; rw [← hX'.out]; exact flat_snoc _ _
              obtain ⟨d5, hd5⟩ : ∃ d5, S [x] = d5 := ⟨_, rfl⟩
              rw [hd5] at hz5 ht5 hcv
              have hc5 : ¬ X.size + d5.size > 9223372036854775807 := by omega
              clear hd5 hX' hQ hPo h3' hm' hk1' hc128'
              go_wp2_with fail
              rw [ht5.out]
              go_roundw
              case rel => exact ⟨i + 1, J2, ts ++ [[x]], hlt'.out, by go_num, rfl, hfin⟩
              case measure => have := hlt'.out; simp [intOf]; omega
          · have g128 : ¬ (128 : Int) ≤ (x.toNat : Int) := by omega
            have g128' : (x.toNat : Int) < 128 := by omega
            have hc128' : Hid (x.toNat < 128) := by unfold Hid; omega
            clear hc128
            cases m with
            | true =>
              by_cases hz : x = 0
              · have gz : ((x.toNat : Int) != 0) = false := by rw [hz]; rfl
                clear hz
                have hpp := hPo x J2 w3 (by have := h3'.out.2; have := hQ.out.2.2.2; have := hss'.out; have := hlt'.out; omega) h3'.out.1
                have hkk : Hid (128 ≤ x.toNat → k = 1) := fun h => by have := hc128'.out; omega
                clear hPo hm'
                go_wp2_with fail
                refine hpp.out.mono ?_
                rintro e w4 ⟨x1, y1, J3, rfl, hxy, hJ3, hP4⟩
                have hfin : Hid (VI w a n c I k v (i + 1) J3 (ts ++ [[92, x1, y1]]) w4) := hQ.out.more hvi.out (Or.inr (Or.inr ⟨x1, y1, rfl, by rw [hxv.out]; exact hxy, by rw [hxv.out]; exact hkk.out⟩)) hP4 (by have := h3'.out.2; omega)
                have hz5 : (S [x1, y1]).size = 2 := S_size _
                have ht5 : Hid ((X ++ ⟨#[92]⟩) ++ S [x1, y1] = S (ts ++ [[92, x1, y1]]).flatten) := by unfold Hid; rw [← hX'.out, show (⟨#[92]⟩ : ByteArray) = S [92] from rfl, S_app', S_app', ← flat_snoc, S_app']; simp
                obtain ⟨d5, hd5⟩ : ∃ d5, S [x1, y1] = d5 := ⟨_, rfl⟩
                rw [hd5] at hz5 ht5 ⊢
                have hc4 : ¬ X.size + 1 > 9223372036854775807 := by omega
                have hc6 : (X ++ (⟨#[92]⟩ : ByteArray)).size = X.size + 1 := by rw [ByteArray.size_append]; rfl
                have hc5 : ¬ (X ++ (⟨#[92]⟩ : ByteArray)).size + d5.size > 9223372036854775807 := by rw [hc6]; omega
                clear hpp hxy hJ3 hP4 hd5 hX' hQ h3' hc6 hkk
                go_wp2_with fail
                rw [ht5.out]
                go_roundw
                case rel => exact ⟨i + 1, J3, ts ++ [[92, x1, y1]], hlt'.out, by go_num, rfl, hfin⟩
                case measure => have := hlt'.out; simp [intOf]; omega
              · have gz : ((x.toNat : Int) != 0) = true := by rw [bne_iff_ne]; exact fun h => hz (UInt8.toNat_inj.1 (by show x.toNat = 0; omega))
                have hz' : Hid (x ≠ 0) := hz
                clear hz
                by_cases hh0 : how = 0
                · have gh : ¬ (0 : Int) < (how : Int) := by omega
                  clear hh0
                  have hpp := hPo x J2 w3 (by have := h3'.out.2; have := hQ.out.2.2.2; have := hss'.out; have := hlt'.out; omega) h3'.out.1
                  have hkk : Hid (128 ≤ x.toNat → k = 1) := fun h => by have := hc128'.out; omega
                  clear hPo hm' hz'
                  go_wp2_with fail
                  refine hpp.out.mono ?_
                  rintro e w4 ⟨x1, y1, J3, rfl, hxy, hJ3, hP4⟩
                  have hfin : Hid (VI w a n c I k v (i + 1) J3 (ts ++ [[92, x1, y1]]) w4) := hQ.out.more hvi.out (Or.inr (Or.inr ⟨x1, y1, rfl, by rw [hxv.out]; exact hxy, by rw [hxv.out]; exact hkk.out⟩)) hP4 (by have := h3'.out.2; omega)
                  have hz5 : (S [x1, y1]).size = 2 := S_size _
                  have ht5 : Hid ((X ++ ⟨#[92]⟩) ++ S [x1, y1] = S (ts ++ [[92, x1, y1]]).flatten) := by unfold Hid; rw [← hX'.out, show (⟨#[92]⟩ : ByteArray) = S [92] from rfl, S_app', S_app', ← flat_snoc, S_app']; simp
                  obtain ⟨d5, hd5⟩ : ∃ d5, S [x1, y1] = d5 := ⟨_, rfl⟩
                  rw [hd5] at hz5 ht5 ⊢
                  have hc4 : ¬ X.size + 1 > 9223372036854775807 := by omega
                  have hc6 : (X ++ (⟨#[92]⟩ : ByteArray)).size = X.size + 1 := by rw [ByteArray.size_append]; rfl
                  have hc5 : ¬ (X ++ (⟨#[92]⟩ : ByteArray)).size + d5.size > 9223372036854775807 := by rw [hc6]; omega
                  clear hpp hxy hJ3 hP4 hd5 hX' hQ h3' hc6 hkk
                  go_wp2_with fail
                  rw [ht5.out]
                  go_roundw
                  case rel => exact ⟨i + 1, J3, ts ++ [[92, x1, y1]], hlt'.out, by go_num, rfl, hfin⟩
                  case measure => have := hlt'.out; simp [intOf]; omega
                · have gh : (0 : Int) < (how : Int) := by omega
                  clear hh0
                  have hcv := one_backB w3 x
                  have hfin : Hid (VI w a n c I k v (i + 1) J2 (ts ++ [[92, x]]) (w3.alloc (.cells #[.int .u8 (x.toNat : Int)] 5))) := hQ.out.more hvi.out (by have h1 := bs_mu (k := k) hvi.out hm'.out (by rw [hxv.out]; exact hz'.out); rw [hxv.out] at h1 ⊢; exact h1) (h3'.out.1.below ((Below.refl _ _).alloc (Nat.le_refl _) _)) (by have := h3'.out.2; omega)
                  have hz5 : (S [x]).size = 1 := S_size _
                  have ht5 : Hid ((X ++ ⟨#[92]⟩) ++ S [x] = S (ts ++ [[92, x]]).flatten) := by unfold Hid; rw [← hX'.out, show (⟨#[92]⟩ : ByteArray) = S [92] from rfl, S_app', S_app', ← flat_snoc, S_app']; simp
                  obtain ⟨d5, hd5⟩ : ∃ d5, S [x] = d5 := ⟨_, rfl⟩
                  rw [hd5] at hz5 ht5 hcv
                  have hc4 : ¬ X.size + 1 > 9223372036854775807 := by omega
                  have hc6 : (X ++ (⟨#[92]⟩ : ByteArray)).size = X.size + 1 := by rw [ByteArray.size_append]; rfl
                  have hc5 : ¬ (X ++ (⟨#[92]⟩ : ByteArray)).size + d5.size > 9223372036854775807 := by rw [hc6]; omega
                  clear hd5 hX' hQ hPo h3' hc6 hm' hz'
                  go_wp2_with fail
                  rw [ht5.out]
                  go_roundw
                  case rel => exact ⟨i + 1, J2, ts ++ [[92, x]], hlt'.out, by go_num, rfl, hfin⟩
                  case measure => have := hlt'.out; simp [intOf]; omega
            | false =>
              by_cases hh2 : 1 < how
              · have gh1 : (1 : Int) < (how : Int) := by omega
                clear hh2
                have hcv := one_backB w3 x
                have hfin : Hid (VI w a n c I k v (i + 1) J2 (ts ++ [[x]]) (w3.alloc (.cells #[.int .u8 (x.toNat : Int)] 5))) := hQ.out.more hvi.out (by have h1 := raw_lo (k := k) hvi.out hm'.out (Or.inl (by rw [hxv.out]; exact hc128'.out)); rw [hxv.out] at h1 ⊢; exact h1) (h3'.out.1.below ((Below.refl _ _).alloc (Nat.le_refl _) _)) (by have := h3'.out.2; omega)
                have hz5 : (S [x]).size = 1 := S_size _
                have ht5 : Hid (X ++ S [x] = S (ts ++ [[x]]).flatten) := by unfold Hid; rw [← hX'.out]; exact flat_snoc _ _
                obtain ⟨d5, hd5⟩ : ∃ d5, S [x] = d5 := ⟨_, rfl⟩
                rw [hd5] at hz5 ht5 hcv
                have hc5 : ¬ X.size + d5.size > 9223372036854775807 := by omega
                clear hd5 hX' hQ hPo h3' hm'
                go_wp2_with fail
                rw [ht5.out]
                go_roundw
                case rel => exact ⟨i + 1, J2, ts ++ [[x]], hlt'.out, by go_num, rfl, hfin⟩
                case measure => have := hlt'.out; simp [intOf]; omega
              · have gh1 : ¬ (1 : Int) < (how : Int) := by omega
                have hz : x ≠ 0 := by
                  intro e
                  have h1 := hm'.out
                  rw [mu_getD hvi.out, hxv.out, e] at h1
                  cases h1
                have gz : ((x.toNat : Int) != 0) = true := by rw [bne_iff_ne]; exact fun h => hz (UInt8.toNat_inj.1 (by show x.toNat = 0; omega))
                clear hz hh2
                by_cases hh0 : how = 0
                · have gh : ¬ (0 : Int) < (how : Int) := by omega
                  clear hh0
                  have hpp := hPo x J2 w3 (by have := h3'.out.2; have := hQ.out.2.2.2; have := hss'.out; have := hlt'.out; omega) h3'.out.1
                  have hkk : Hid (128 ≤ x.toNat → k = 1) := fun h => by have := hc128'.out; omega
                  clear hPo hm'
                  go_wp2_with fail
                  refine hpp.out.mono ?_
                  rintro e w4 ⟨x1, y1, J3, rfl, hxy, hJ3, hP4⟩
                  have hfin : Hid (VI w a n c I k v (i + 1) J3 (ts ++ [[92, x1, y1]]) w4) := hQ.out.more hvi.out (Or.inr (Or.inr ⟨x1, y1, rfl, by rw [hxv.out]; exact hxy, by rw [hxv.out]; exact hkk.out⟩)) hP4 (by have := h3'.out.2; omega)
                  have hz5 : (S [x1, y1]).size = 2 := S_size _
                  have ht5 : Hid ((X ++ ⟨#[92]⟩) ++ S [x1, y1] = S (ts ++ [[92, x1, y1]]).flatten) := by unfold Hid; rw [← hX'.out, show (⟨#[92]⟩ : ByteArray) = S [92] from rfl, S_app', S_app', ← flat_snoc, S_app']; simp
                  obtain ⟨d5, hd5⟩ : ∃ d5, S [x1, y1] = d5 := ⟨_, rfl⟩
                  rw [hd5] at hz5 ht5 ⊢
                  have hc4 : ¬ X.size + 1 > 9223372036854775807 := by omega
                  have hc6 : (X ++ (⟨#[92]⟩ : ByteArray)).size = X.size + 1 := by rw [ByteArray.size_append]; rfl
                  have hc5 : ¬ (X ++ (⟨#[92]⟩ : ByteArray)).size + d5.size > 9223372036854775807 := by rw [hc6]; omega
                  clear hpp hxy hJ3 hP4 hd5 hX' hQ h3' hc6 hkk
                  go_wp2_with fail
                  rw [ht5.out]
                  go_roundw
                  case rel => exact ⟨i + 1, J3, ts ++ [[92, x1, y1]], hlt'.out, by go_num, rfl, hfin⟩
                  case measure => have := hlt'.out; simp [intOf]; omega
                · have gh : (0 : Int) < (how : Int) := by omega
                  clear hh0
                  by_cases e35 : x = 35
                  · have g35 : ((x.toNat : Int) == 35) = true := by rw [e35]; rfl
                    have e35' : Hid (x = 35) := e35
                    clear e35
                    have hcv := one_backB w3 x
                    have hfin : Hid (VI w a n c I k v (i + 1) J2 (ts ++ [[92, x]]) (w3.alloc (.cells #[.int .u8 (x.toNat : Int)] 5))) := hQ.out.more hvi.out (by rw [hxv.out]; exact bs_es (Or.inl e35'.out)) (h3'.out.1.below ((Below.refl _ _).alloc (Nat.le_refl _) _)) (by have := h3'.out.2; omega)
                    have hz5 : (S [x]).size = 1 := S_size _
                    have ht5 : Hid ((X ++ ⟨#[92]⟩) ++ S [x] = S (ts ++ [[92, x]]).flatten) := by unfold Hid; rw [← hX'.out, show (⟨#[92]⟩ : ByteArray) = S [92] from rfl, S_app', S_app', ← flat_snoc, S_app']; simp
                    obtain ⟨d5, hd5⟩ : ∃ d5, S [x] = d5 := ⟨_, rfl⟩
                    rw [hd5] at hz5 ht5 hcv
                    have hc4 : ¬ X.size + 1 > 9223372036854775807 := by omega
                    have hc6 : (X ++ (⟨#[92]⟩ : ByteArray)).size = X.size + 1 := by rw [ByteArray.size_append]; rfl
                    have hc5 : ¬ (X ++ (⟨#[92]⟩ : ByteArray)).size + d5.size > 9223372036854775807 := by rw [hc6]; omega
                    clear hd5 hX' hQ hPo h3' hc6 hm' e35'
                    go_wp2_with fail
                    rw [ht5.out]
                    go_roundw
                    case rel => exact ⟨i + 1, J2, ts ++ [[92, x]], hlt'.out, by go_num, rfl, hfin⟩
                    case measure => have := hlt'.out; simp [intOf]; omega
                  · have g35 : ((x.toNat : Int) == 35) = false := by rw [beq_eq_false_iff_ne]; exact fun h => e35 (UInt8.toNat_inj.1 (by show x.toNat = 35; omega))
                    clear e35
                    by_cases e61 : x = 61
                    · have g61 : ((x.toNat : Int) == 61) = true := by rw [e61]; rfl
                      have e61' : Hid (x = 61) := e61
                      clear e61
                      have hcv := one_backB w3 x
                      have hfin : Hid (VI w a n c I k v (i + 1) J2 (ts ++ [[92, x]]) (w3.alloc (.cells #[.int .u8 (x.toNat : Int)] 5))) := hQ.out.more hvi.out (by rw [hxv.out]; exact bs_es (Or.inr (Or.inl e61'.out))) (h3'.out.1.below ((Below.refl _ _).alloc (Nat.le_refl _) _)) (by have := h3'.out.2; omega)
                      have hz5 : (S [x]).size = 1 := S_size _
                      have ht5 : Hid ((X ++ ⟨#[92]⟩) ++ S [x] = S (ts ++ [[92, x]]).flatten) := by unfold Hid; rw [← hX'.out, show (⟨#[92]⟩ : ByteArray) = S [92] from rfl, S_app', S_app', ← flat_snoc, S_app']; simp
                      obtain ⟨d5, hd5⟩ : ∃ d5, S [x] = d5 := ⟨_, rfl⟩
                      rw [hd5] at hz5 ht5 hcv
                      have hc4 : ¬ X.size + 1 > 9223372036854775807 := by omega
                      have hc6 : (X ++ (⟨#[92]⟩ : ByteArray)).size = X.size + 1 := by rw [ByteArray.size_append]; rfl
                      have hc5 : ¬ (X ++ (⟨#[92]⟩ : ByteArray)).size + d5.size > 9223372036854775807 := by rw [hc6]; omega
                      clear hd5 hX' hQ hPo h3' hc6 hm' e61'
                      go_wp2_with fail
                      rw [ht5.out]
                      go_roundw
                      case rel => exact ⟨i + 1, J2, ts ++ [[92, x]], hlt'.out, by go_num, rfl, hfin⟩
                      case measure => have := hlt'.out; simp [intOf]; omega
                    · have g61 : ((x.toNat : Int) == 61) = false := by rw [beq_eq_false_iff_ne]; exact fun h => e61 (UInt8.toNat_inj.1 (by show x.toNat = 61; omega))
                      clear e61
                      by_cases e32 : x = 32
                      · have g32 : ((x.toNat : Int) == 32) = true := by rw [e32]; rfl
                        have e32' : Hid (x = 32) := e32
                        clear e32
                        have hcv := one_backB w3 x
                        have hfin : Hid (VI w a n c I k v (i + 1) J2 (ts ++ [[92, x]]) (w3.alloc (.cells #[.int .u8 (x.toNat : Int)] 5))) := hQ.out.more hvi.out (by rw [hxv.out]; exact bs_es (Or.inr (Or.inr e32'.out))) (h3'.out.1.below ((Below.refl _ _).alloc (Nat.le_refl _) _)) (by have := h3'.out.2; omega)
                        have hz5 : (S [x]).size = 1 := S_size _
                        have ht5 : Hid ((X ++ ⟨#[92]⟩) ++ S [x] = S (ts ++ [[92, x]]).flatten) := by unfold Hid; rw [← hX'.out, show (⟨#[92]⟩ : ByteArray) = S [92] from rfl, S_app', S_app', ← flat_snoc, S_app']; simp
                        obtain ⟨d5, hd5⟩ : ∃ d5, S [x] = d5 := ⟨_, rfl⟩
                        rw [hd5] at hz5 ht5 hcv
                        have hc4 : ¬ X.size + 1 > 9223372036854775807 := by omega
                        have hc6 : (X ++ (⟨#[92]⟩ : ByteArray)).size = X.size + 1 := by rw [ByteArray.size_append]; rfl
                        have hc5 : ¬ (X ++ (⟨#[92]⟩ : ByteArray)).size + d5.size > 9223372036854775807 := by rw [hc6]; omega
                        clear hd5 hX' hQ hPo h3' hc6 hm' e32'
                        go_wp2_with fail
                        rw [ht5.out]
                        go_roundw
                        case rel => exact ⟨i + 1, J2, ts ++ [[92, x]], hlt'.out, by go_num, rfl, hfin⟩
                        case measure => have := hlt'.out; simp [intOf]; omega
                      · have g32 : ((x.toNat : Int) == 32) = false := by rw [beq_eq_false_iff_ne]; exact fun h => e32 (UInt8.toNat_inj.1 (by show x.toNat = 32; omega))
                        clear e32
                        have hpp := hPo x J2 w3 (by have := h3'.out.2; have := hQ.out.2.2.2; have := hss'.out; have := hlt'.out; omega) h3'.out.1
                        have hkk : Hid (128 ≤ x.toNat → k = 1) := fun h => by have := hc128'.out; omega
                        clear hPo hm'
                        go_wp2_with fail
                        refine hpp.out.mono ?_
                        rintro e w4 ⟨x1, y1, J3, rfl, hxy, hJ3, hP4⟩
                        have hfin : Hid (VI w a n c I k v (i + 1) J3 (ts ++ [[92, x1, y1]]) w4) := hQ.out.more hvi.out (Or.inr (Or.inr ⟨x1, y1, rfl, by rw [hxv.out]; exact hxy, by rw [hxv.out]; exact hkk.out⟩)) hP4 (by have := h3'.out.2; omega)
                        have hz5 : (S [x1, y1]).size = 2 := S_size _
                        have ht5 : Hid ((X ++ ⟨#[92]⟩) ++ S [x1, y1] = S (ts ++ [[92, x1, y1]]).flatten) := by unfold Hid; rw [← hX'.out, show (⟨#[92]⟩ : ByteArray) = S [92] from rfl, S_app', S_app', ← flat_snoc, S_app']; simp
                        obtain ⟨d5, hd5⟩ : ∃ d5, S [x1, y1] = d5 := ⟨_, rfl⟩
                        rw [hd5] at hz5 ht5 ⊢
                        have hc4 : ¬ X.size + 1 > 9223372036854775807 := by omega
                        have hc6 : (X ++ (⟨#[92]⟩ : ByteArray)).size = X.size + 1 := by rw [ByteArray.size_append]; rfl
                        have hc5 : ¬ (X ++ (⟨#[92]⟩ : ByteArray)).size + d5.size > 9223372036854775807 := by rw [hc6]; omega
                        clear hpp hxy hJ3 hP4 hd5 hX' hQ h3' hc6 hkk
                        go_wp2_with fail
                        rw [ht5.out]
                        go_roundw
                        case rel => exact ⟨i + 1, J3, ts ++ [[92, x1, y1]], hlt'.out, by go_num, rfl, hfin⟩
                        case measure => have := hlt'.out; simp [intOf]; omega
        · have e : sv.size = i := by omega
          have i1 : ¬ (i : Int) < (sv.size : Int) := by omega
          have hfin : Hid (SvQ w a n c (I + 5 + 2 * v.length) v (.returned (.string (S ts.flatten))) wr) := by
            have h1 := hQ.out.1
            rw [List.take_of_length_le (by rw [← hss'.out.1, e]; exact Nat.le_refl _)] at h1
            refine ⟨ts.flatten, J, rfl, Or.inl ⟨k, ts, h1, rfl⟩, ?_, ?_, hQ.out.2.2.1⟩
            · have := hQ.out.2.1; have := hss'.out.1; omega
            · have := hQ.out.2.2.2; have := hss'.out.1; omega
          generalize S ts.flatten = X at *
          clear hQ hi hlt e hPo hN5 hMu
          go_wp2_with fail
          go_ret
          exact hfin.out
end Pa
end Go.Proofs.YtkknenmpdimdbaaGreatDoor
