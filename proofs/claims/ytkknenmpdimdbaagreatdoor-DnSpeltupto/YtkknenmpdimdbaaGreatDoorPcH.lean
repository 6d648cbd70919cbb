import Derived.Test.YtkknenmpdimdbaaGreatDoorPcP
namespace Go.Proofs.YtkknenmpdimdbaaGreatDoor
namespace Pa
open Go.RowKit
open TextMath (fold lo normal check wo unhex)
open Ke (mst PR)
open Bl (NRw Pk NxQ next_any)
set_option linter.unusedVariables false
set_option linter.unusedSimpArgs false
set_option maxRecDepth 100000

variable {w W W' : World} {a : Option Addr} {n c I : Nat}
/-- A spelling of a value. -/
def SvQ (w : World) (a : Option Addr) (n c M : Nat) (v : List UInt8) (e : Ending) (W' : World) : Prop := ∃ (t : List UInt8) (I' : Nat), e = .returned (.string (S t)) ∧ SpV v t ∧ t.length ≤ 3 * v.length + 5 ∧ I' ≤ M ∧ PkN w a n c I' W'
theorem cat_ok {x y : ByteArray} (h : x.size ≤ 1073741824) (h2 : y.size ≤ 1073741824) : ¬ x.size + y.size > 9223372036854775807 := by omega
theorem tags (W W1 : World) (g : Nat) (k : Nat) (hk : k < 4) (hw : Wb g (W.alloc (.cells #[.int .u8 4, .int .u8 12, .int .u8 19, .int .u8 22] 5)) W1) (hg : g < W.heap.size) :
    ∃ tg : UInt8, (tg = 4 ∨ tg = 12 ∨ tg = 19 ∨ tg = 22) ∧ W1.cell? ⟨W.heap.size, k, none⟩ = some (.int .u8 (tg.toNat : Int)) := by
  have h1 : W1.heap[W.heap.size]? = some (.cells #[.int .u8 4, .int .u8 12, .int .u8 19, .int .u8 22] 5 (0, 0)) := by
    rw [hw.2 W.heap.size (by simp) (by omega)]
    exact heap_alloc_last W _
  have hk4 : k = 0 ∨ k = 1 ∨ k = 2 ∨ k = 3 := by omega
  rcases hk4 with rfl | rfl | rfl | rfl
  · exact ⟨4, by simp, by simp [World.cell?, h1]⟩
  · exact ⟨12, by simp, by simp [World.cell?, h1]⟩
  · exact ⟨19, by simp, by simp [World.cell?, h1]⟩
  · exact ⟨22, by simp, by simp [World.cell?, h1]⟩
theorem S_app' (a b : List UInt8) : S a ++ S b = S (a ++ b) := by
  apply ByteArray.ext
  simp [S]
theorem S_two (X : List UInt8) (x y : UInt8) : S X ++ S [x, y] = S (X ++ [x, y]) := S_app' _ _
set_option maxHeartbeats 8000000 in
theorem hashed_any (v : List UInt8) (hv : v.length < 128) (h : PkN w a n c I W) (hr : NRw w a n) (hI : I ≤ 1073741000) (hn : n ≤ 1073741824) :
    Calls Tryz.prog 53 #[.pointer (some ⟨w.heap.size, 0, none⟩), .string (S v)] W fun e w' => SvQ w a n c (I + 4 + 2 * v.length) v e w' := by
  obtain ⟨W0, hW0⟩ : ∃ W0, W.alloc (.cells #[.int .u8 4, .int .u8 12, .int .u8 19, .int .u8 22] 5) = W0 := ⟨_, rfl⟩
  have hP0 : PkN w a n c I W0 := by rw [← hW0]; exact h.below ((Below.refl _ _).alloc (Nat.le_refl _) _)
  have hN : Hid (Calls Tryz.prog 52 #[.pointer (some ⟨w.heap.size, 0, none⟩), .int .i64 4] W0 fun e w' => NxN w a n c I 4 W0 e w') := nextN 4 hP0 hr (by decide) (by decide) (by omega) hn
  have hPo : ∀ b J X, J ≤ 1073741824 → PkN w a n c J X → Hid (Calls Tryz.prog 55 #[.pointer (some ⟨w.heap.size, 0, none⟩), .int .u8 (UInt8.toNat b : Int)] X fun e w' => PoQ w a n c J b e w') := fun b J X hJ hX => pairOf_any b hX hr hJ hn
  have hT : Hid (∀ k W1, k < 4 → Wb w.heap.size W0 W1 → ∃ tg : UInt8, (tg = 4 ∨ tg = 12 ∨ tg = 19 ∨ tg = 22) ∧ W1.cell? ⟨W.heap.size, k, none⟩ = some (.int .u8 (tg.toNat : Int))) := fun k W1 hk hw => tags W W1 w.heap.size k hk (by rw [hW0]; exact hw) h.lt
  have hsl : Hid ((S v).data.toList = v) := S_l v
  have hss : (S v).size = v.length := S_size v
  obtain ⟨sv, hsv⟩ : ∃ sv, S v = sv := ⟨_, rfl⟩
  rw [hsv] at hsl hss ⊢
  have hs128 : (sv.size : Int) < 128 := by omega
  have hs0 : (0 : Int) ≤ (sv.size : Int) := Int.natCast_nonneg _
  have hs8 : IntKind.u8.wrap (sv.size : Int) = (sv.size : Int) := by rw [IntKind.wrap_u8]; omega
  have hlb : Hid (((UInt8.ofNat v.length).toNat : Int) = (sv.size : Int)) := by
    unfold Hid
    rw [UInt8.toNat_ofNat', hss]
    omega
  have hss' : Hid (sv.size = v.length ∧ v.length < 128 ∧ I ≤ 1073741000) := ⟨hss, hv, hI⟩
  obtain ⟨g, hg⟩ : ∃ g, w.heap.size = g := ⟨_, rfl⟩
  rw [hg] at hN hPo hT ⊢
  clear h hr hI hn hss hsv hv hP0
  go_enter Tryz.func53, Tryz.ntmps53
  go_wp2_with fail
  refine hN.out.mono ?_
  rintro e w1 ⟨k, I1, rfl, hk, hI1, hP1, hwb⟩
  rw [hg] at hwb
  have k0 : (0 : Int) ≤ (k : Int) := Int.natCast_nonneg _
  obtain ⟨tg, htg, hc⟩ := hT.out k w1 (by omega) hwb
  have hp1 := hPo tg I1 w1 (by have := hss'.out.2.2; omega) hP1
  have hI1' : Hid (I1 ≤ I + 1) := hI1
  have htg' : Hid (tg = 4 ∨ tg = 12 ∨ tg = 19 ∨ tg = 22) := htg
  clear hN hT hwb hI1 hP1 hW0 htg
  go_wp2_with fail
  refine hp1.out.mono ?_
  rintro e w2 ⟨x1, y1, I2, rfl, hx1, hI2, hP2⟩
  have hp2 := hPo (UInt8.ofNat v.length) I2 w2 (by have := hss'.out.2.2; have := hI1'.out; omega) hP2
  rw [hlb.out] at hp2
  have h2' : Hid (Hx2 tg x1 y1 ∧ I2 ≤ I1 + 1) := ⟨hx1, hI2⟩
  have hz1 : (S [x1, y1]).size = 2 := S_size _
  have ht1 : Hid ((⟨#[35]⟩ : ByteArray) ++ S [x1, y1] = S (35 :: [x1, y1])) := S_app' [35] [x1, y1]
  obtain ⟨d1, hd1⟩ : ∃ d1, S [x1, y1] = d1 := ⟨_, rfl⟩
  rw [hd1] at hz1 ht1 ⊢
  have hc1 : ¬ 1 + d1.size > 9223372036854775807 := by omega
  clear hp1 hx1 hI2 hP2 hd1
  go_wp2_with fail
  rw [ht1.out]
  have hz2 : (S (35 :: [x1, y1])).size = 3 := S_size _
  obtain ⟨d3, hd3⟩ : ∃ d3, S (35 :: [x1, y1]) = d3 := ⟨_, rfl⟩
  have hd3' : Hid (S (35 :: [x1, y1]) = d3) := hd3
  rw [hd3] at hz2 ⊢
  clear hd3 hz1 ht1 hc1
  refine hp2.out.mono ?_
  rintro e w3 ⟨x2, y2, I3, rfl, hx2, hI3, hP3⟩
  have hz4 : (S [x2, y2]).size = 2 := S_size _
  have ht4 : Hid (d3 ++ S [x2, y2] = S (35 :: [x1, y1, x2, y2])) := by unfold Hid; rw [← hd3'.out]; exact S_app' _ _
  have h3' : Hid (HxL (tg :: UInt8.ofNat v.length :: v.take 0) [x1, y1, x2, y2] ∧ PkN w a n c I3 w3 ∧ I3 ≤ I + 3) := ⟨⟨h2'.out.1, hx2, trivial⟩, hP3, by have := h2'.out.2; have := hI1'.out; omega⟩
  obtain ⟨d4, hd4⟩ : ∃ d4, S [x2, y2] = d4 := ⟨_, rfl⟩
  rw [hd4] at hz4 ht4 ⊢
  have hc2 : ¬ d3.size + d4.size > 9223372036854775807 := by omega
  clear hp2 hx2 hI3 hP3 hd4 hd3' h2'
  go_wp2_with fail
  rw [ht4.out]
  clear hc2 ht4 hz4 hz2
  go_loopw [6, 7, 8] (fun xv iv _ wr => ∃ (i J : Nat) (ds : List UInt8), i ≤ sv.size ∧ iv = .int .i64 (i : Int) ∧ xv = .string (S (35 :: ds)) ∧ Hid (HxL (tg :: UInt8.ofNat v.length :: v.take i) ds ∧ PkN w a n c J wr ∧ J ≤ I + 3 + i)) (fun _ iv _ _ => sv.size - (intOf iv).toNat)
  case atStart => exact ⟨0, I3, [x1, y1, x2, y2], Nat.zero_le _, rfl, rfl, h3'.out⟩
  case round =>
    obtain ⟨i, J, ds, hi, rfl, rfl, hQ⟩ := hrel
    clear h3'
    have i0 : (0 : Int) ≤ (i : Int) := Int.natCast_nonneg _
    have hdl := hQ.out.1.len
    have hdl2 : ds.length ≤ 300 := by
      rw [hdl]
      have h1 : (v.take i).length ≤ v.length := List.length_take_le' _ _
      simp only [List.length_cons]
      have := hss'.out.2.1
      omega
    have hxz : (S (35 :: ds)).size ≤ 301 := by rw [S_size, List.length_cons]; omega
    by_cases hlt : i < sv.size
    · have i1 : (i : Int) < (sv.size : Int) := Int.ofNat_lt.2 hlt
      have hvi : i < v.length := by rw [← hss'.out.1]; exact hlt
      have hgv : Hid (sv[i] = v[i]) := by
        unfold Hid
        have h1 : sv.data.toList[i]'(by rw [hsl.out]; exact hvi) = v[i] := by simp only [hsl.out]
        exact h1
      have hpp := hPo sv[i] J wr (by have := hQ.out.2.2; have := hss'.out; omega) hQ.out.2.1
      have hlt' : Hid (i < sv.size) := hlt
      obtain ⟨X, hX⟩ : ∃ X, S (35 :: ds) = X := ⟨_, rfl⟩
      have hX' : Hid (S (35 :: ds) = X) := hX
      rw [hX] at hxz ⊢
      clear hX hdl hdl2 hi
      go_wp2_with fail
      refine hpp.out.mono ?_
      rintro e w4 ⟨x, y, J2, rfl, hxy, hJ2, hP4⟩
      have hz5 : (S [x, y]).size = 2 := S_size _
      have ht5 : Hid (X ++ S [x, y] = S (35 :: (ds ++ [x, y]))) := by unfold Hid; rw [← hX'.out]; exact S_app' _ _
      have hfin : Hid (HxL (tg :: UInt8.ofNat v.length :: v.take (i + 1)) (ds ++ [x, y]) ∧ PkN w a n c J2 w4 ∧ J2 ≤ I + 3 + (i + 1)) := by
        refine ⟨?_, hP4, by have := hQ.out.2.2; omega⟩
        rw [List.take_succ_eq_append_getElem hvi]
        rw [hgv.out] at hxy
        exact HxL.snoc hQ.out.1 hxy
      obtain ⟨d5, hd5⟩ : ∃ d5, S [x, y] = d5 := ⟨_, rfl⟩
      rw [hd5] at hz5 ht5 ⊢
      have hc5 : ¬ X.size + d5.size > 9223372036854775807 := by omega
      clear hpp hxy hJ2 hP4 hd5 hX' hQ hgv hlt hvi
      go_wp2_with fail
      rw [ht5.out]
      go_roundw
      case rel => exact ⟨i + 1, J2, ds ++ [x, y], hlt'.out, by go_num, rfl, hfin⟩
      case measure => have := hlt'.out; simp [intOf]; omega
    · have e : sv.size = i := by omega
      have i1 : ¬ (i : Int) < (sv.size : Int) := by omega
      have hfin : Hid (SvQ w a n c (I + 4 + 2 * v.length) v (.returned (.string (S (35 :: ds)))) wr) := by
        have h1 := hQ.out.1
        rw [List.take_of_length_le (by rw [← hss'.out.1, e]; exact Nat.le_refl _)] at h1
        have h2 := h1.len
        simp only [List.length_cons] at h2
        refine ⟨35 :: ds, J, rfl, Or.inr ⟨hss'.out.2.1, tg, ds, htg'.out, h1, rfl⟩, ?_, ?_, hQ.out.2.1⟩
        · rw [List.length_cons]; omega
        · have := hQ.out.2.2; have := hss'.out.1; omega
      generalize S (35 :: ds) = X at *
      clear hQ hdl hdl2 hi hlt e
      go_wp2_with fail
      go_ret
      exact hfin.out
end Pa
end Go.Proofs.YtkknenmpdimdbaaGreatDoor
