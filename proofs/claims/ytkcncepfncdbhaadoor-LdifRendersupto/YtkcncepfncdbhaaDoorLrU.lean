import Derived.Test.YtkcncepfncdbhaaDoorLrV
import Derived.Test.YtkcncepfncdbhaaDoorAllSafe
import Derived.Test.YtkcncepfncdbhaaDoorBbRef
import Derived.Test.YtkcncepfncdbhaaDoorRfA
import Derived.Lib.AppendStr
import Derived.Lib.SlBytesConst
import Derived.Lib.AppendZeros
namespace Go.Proofs.YtkcncepfncdbhaaDoor
namespace Lr
open Go.RowKit
open TextMath (b64 fold)
set_option linter.unusedVariables false
set_option maxRecDepth 100000

theorem app_S (a b : ByteArray) : a ++ b = S (a.data.toList ++ b.data.toList) := S_eq _ _ (app_l a b)
set_option maxHeartbeats 1000000 in
theorem rLine_any (d v : ByteArray) (w : World) (hz : d.size + 2 * v.size ≤ 8388608) :
    Calls Tryd.prog 9 #[.string d, .string v] w fun e w' => e = .returned (.string (S (lin d.data.toList v.data.toList))) ∧ Below w.heap.size w w' := by
  have hv0 := nil_toList v
  have hP : Hid (Calls Tryd.prog 18 #[.string v] w fun e w' => e = .returned (.bool (plain v.data.toList)) ∧ w = w') := (rPlain_any v w (by omega)).mono (fun e w' h => ⟨h.1, h.2.symm⟩)
  have hvl : Hid (v.data.toList.length = v.size) := size_l v
  by_cases hv : v.data.toList = []
  · rw [decide_eq_true hv] at hv0
    have s1 : ¬ d.size + 2 > 9223372036854775807 := by omega
    have hfin : Hid (S (lin d.data.toList v.data.toList) = d ++ { data := #[58, 10] }) := by
      unfold Hid lin beh
      rw [if_pos hv, app_S]
      simp
    cases hp : plain v.data.toList with
    | true =>
      rw [hp] at hP
      clear hp hv
      go_enter Tryd.func9, Tryd.ntmps9
      go_wp2_with (go_at_call 18; refine hP.out.mono ?_; rintro e w1 ⟨rfl, rfl⟩)
      go_ret
      exact ⟨by rw [hfin.out]; rfl, Below.refl _ _⟩
    | false =>
      rw [hp] at hP
      clear hp hv
      go_enter Tryd.func9, Tryd.ntmps9
      go_wp2_with (go_at_call 18; refine hP.out.mono ?_; rintro e w1 ⟨rfl, rfl⟩)
      go_ret
      exact ⟨by rw [hfin.out]; rfl, Below.refl _ _⟩
  · rw [decide_eq_false hv] at hv0
    cases hp : plain v.data.toList with
    | true =>
      have hfin : Hid (S (lin d.data.toList v.data.toList) = d ++ { data := #[58, 32] } ++ v ++ { data := #[10] }) := by
        unfold Hid lin beh
        rw [if_neg hv, if_pos hp, app_S, app_l, app_l]
        simp
      rw [hp] at hP
      have s1 : ¬ d.size + 2 > 9223372036854775807 := by omega
      have s2 : ¬ (d ++ { data := #[58, 32] } : ByteArray).size + v.size > 9223372036854775807 := by rw [ByteArray.size_append]; show ¬ d.size + 2 + v.size > _; omega
      have s3 : ¬ (d ++ { data := #[58, 32] } ++ v : ByteArray).size + 1 > 9223372036854775807 := by rw [ByteArray.size_append, ByteArray.size_append]; show ¬ d.size + 2 + v.size + 1 > _; omega
      clear hp hv
      go_enter Tryd.func9, Tryd.ntmps9
      go_wp2_with (go_at_call 18; refine hP.out.mono ?_; rintro e w1 ⟨rfl, rfl⟩)
      go_ret
      exact ⟨by rw [hfin.out]; rfl, Below.refl _ _⟩
    | false =>
      have hE : Hid (Calls Tryd.prog 19 #[.string v] w fun e w' => e = .returned (.string (S (b64 v.data.toList))) ∧ Below w.heap.size w w') := rBase64_any v w (by omega)
      have hfin : Hid (S (lin d.data.toList v.data.toList) = d ++ { data := #[58, 58, 32] } ++ S (b64 v.data.toList) ++ { data := #[10] }) := by
        unfold Hid lin beh
        rw [if_neg hv, if_neg (by rw [hp]; decide), app_S, app_l, app_l, S_l]
        simp
      have hbl : (S (b64 v.data.toList)).size ≤ 2 * v.size + 4 := by rw [S_size, TextMath.b64_len, hvl.out]; omega
      rw [hp] at hP
      generalize S (b64 v.data.toList) = E at *
      have s1 : ¬ d.size + 3 > 9223372036854775807 := by omega
      have s2 : ¬ (d ++ { data := #[58, 58, 32] } : ByteArray).size + E.size > 9223372036854775807 := by rw [ByteArray.size_append]; show ¬ d.size + 3 + E.size > _; omega
      have s3 : ¬ (d ++ { data := #[58, 58, 32] } ++ E : ByteArray).size + 1 > 9223372036854775807 := by rw [ByteArray.size_append, ByteArray.size_append]; show ¬ d.size + 3 + E.size + 1 > _; omega
      clear hp hv
      go_enter Tryd.func9, Tryd.ntmps9
      go_wp2_with (first | (go_at_call 18; refine hP.out.mono ?_; rintro e w1 ⟨rfl, rfl⟩) | (go_at_call 19; refine hE.out.mono ?_; rintro e w2 ⟨rfl, hb2⟩))
      go_ret
      exact ⟨by rw [hfin.out]; rfl, hb2⟩
set_option maxHeartbeats 1000000 in
theorem rIsDesc_any (s : ByteArray) (w : World) (hs : s.size ≤ 4194304) :
    Calls Tryd.prog 10 #[.string s] w fun e w' => e = .returned (.bool (okD s.data.toList)) ∧ Below w.heap.size w w' := by
  have hD : Hid (Calls Tryd.prog 20 #[.string s] w fun e w' => e = .returned (.bool (dacc (drun 0 (fold s.data.toList)))) ∧ Below w.heap.size w w') := by
    have := isDesc_any s w hs
    rw [dsc_dfaB] at this
    exact this
  have hF : Hid (∀ W, Calls Tryd.prog 21 #[.string s] W fun e w' => e = .returned (.string (S (fold s.data.toList))) ∧ Below W.heap.size W w') := fun W => rFold_any s W (by omega)
  have hdn : ((S (fold s.data.toList)).toList == [100, 110]) = (fold s.data.toList == dnB) := by rw [Lib.toList_data, S_l]; rfl
  unfold okD
  generalize dacc (drun 0 (fold s.data.toList)) = x at *
  generalize (fold s.data.toList == dnB) = y at *
  generalize S (fold s.data.toList) = f at *
  cases x with
  | false =>
    go_enter Tryd.func10, Tryd.ntmps10
    go_wp2_with (go_at_call 20; refine hD.out.mono ?_; rintro e w1 ⟨rfl, hb1⟩)
    go_ret
    exact ⟨rfl, hb1⟩
  | true =>
    cases y <;>
    · go_enter Tryd.func10, Tryd.ntmps10
      go_wp2_with (first | (go_at_call 20; refine hD.out.mono ?_; rintro e w1 ⟨rfl, hb1⟩) | (go_at_call 21; refine (hF.out _).mono ?_; rintro e w2 ⟨rfl, hb2⟩))
      go_ret
      exact ⟨by first | rfl | simp_all, hb1.trans (hb2.mono hb1.size)⟩
set_option maxHeartbeats 1000000 in
theorem rIsChange_any (s : ByteArray) (w : World) (hs : s.size ≤ 4194304) :
    Calls Tryd.prog 11 #[.string s] w fun e w' => e = .returned (.bool (chg s.data.toList)) ∧ Below w.heap.size w w' := by
  have hF : Hid (Calls Tryd.prog 21 #[.string s] w fun e w' => e = .returned (.string (S (fold s.data.toList))) ∧ Below w.heap.size w w') := rFold_any s w (by omega)
  have h1 : ((S (fold s.data.toList)).toList == [99, 104, 97, 110, 103, 101, 116, 121, 112, 101]) = (fold s.data.toList == chB) := by rw [Lib.toList_data, S_l]; rfl
  have h2 : ((S (fold s.data.toList)).toList == [99, 111, 110, 116, 114, 111, 108]) = (fold s.data.toList == coB) := by rw [Lib.toList_data, S_l]; rfl
  unfold chg
  generalize (fold s.data.toList == chB) = x at *
  generalize (fold s.data.toList == coB) = y at *
  generalize S (fold s.data.toList) = f at *
  cases x <;> cases y <;>
  · go_enter Tryd.func11, Tryd.ntmps11
    go_wp2_with (go_at_call 21; refine hF.out.mono ?_; rintro e w1 ⟨rfl, hb1⟩)
    go_ret
    exact ⟨by first | rfl | simp_all, hb1⟩
theorem kt_row {w : World} {g : Nat} {cur : Array Value} {fz : Nat × Nat} (hg : w.heap[g]? = some (.cells cur 5 fz)) (cs : Array Value) : Kt w (w.setRow g cs) := fun k o q1 q2 q3 => by
  have hne : k ≠ g := fun e => by
    subst e
    rw [hg] at q1
    injection q1 with q1
    exact q3 _ _ q1.symm
  rw [setRow_other w g k _ hne]
  exact q1
theorem append_byteK (w : World) (ty : TypeId) (B : Nat) (v : Value) (l : List UInt8) (c : UInt8) (gx : Nat) (h : OwnG w B v l) (hx : w.heap[gx]? = some (.cells #[.int .u8 (c.toNat : Int)] 5 (0, 0))) (hB : B ≤ w.heap.size) (hl : l.length + 1 ≤ 1099511627776) :
    ∃ v' w', (Builtin.append_ #[30, 30] ty #[v, .slice (some ⟨gx, 0, none⟩) 1 1]).run Tryd.prog w = .ok v' w' ∧ OwnG w' B v' (l ++ [c]) ∧ Below B w w' ∧ Kt w w' := by
  have h' := h
  obtain ⟨g, cap, cur, fz, rfl, hbg, hg, hf, hnc, hcm, hcs, ht⟩ := h'
  obtain ⟨i0, hi, hz0, hz1, hz2⟩ := info_parts info_u8
  have hnews : ∀ j u, (bv [c])[j]? = some u → w.cell? ((⟨gx, 0, none⟩ : Addr).add j) = some u := World.news_of_block hx
  by_cases hr : l.length + 1 ≤ cap
  · have hfc := run_firstCells_some (P := Tryd.prog) w 1 1 ⟨gx, 0, none⟩ 1 1 (bv [c]) rfl hnews
    have hst := storeG Tryd.prog g l.length cur.size 5 fz hf (bv [c]) 0 cur w hg rfl (by rw [bv_len, hcs]; simpa using hr) (bv_one _)
    simp only [Nat.add_zero, bv_len] at hst
    obtain ⟨o1, o2⟩ := ownG_room (k := [c]) hbg hg hf hr hcm hcs ht
    refine ⟨_, _, ?_, o1, o2, kt_row hg _⟩
    simp [Builtin.append_, run_underlying Tryd.underlying30, sizeOf, typeInfo, hi, hz1, Builtin.lenOf, hr, hfc, Addr.add_lit, hst]
  · have hg2 := run_append_grow (P := Tryd.prog) w 30 ty 5 i0 _ Tryd.underlying30 hi hz0 ⟨g, 0, none⟩ l.length cap (bv l) (by rw [hz1, bv_len, Nat.mul_one]) (fun j u hu => by
      have hj : j < l.length := by
        rcases Nat.lt_or_ge j l.length with h' | h'
        · exact h'
        · rw [List.getElem?_eq_none (by rw [bv_len]; exact h')] at hu; cases hu
      rw [add_j, ownG_cells h j hj, ← hu]
      simp [bv, hj]) ⟨gx, 0, none⟩ 1 1 (bv [c]) (by rw [hz1]; rfl) hnews (by omega) (by omega) (by rw [hz2]; exact growslice_fits (by omega) (by omega))
    obtain ⟨o1, o2⟩ := ownG_grow (w := w) (B := B) (l := l) (k := [c]) cap hB hl
    exact ⟨_, _, hg2, o1, o2, Kt.below (((Below.refl _ _).drew).alloc (Nat.le_refl _) _)⟩
/-- A string appended. -/
theorem append_strK (w : World) (ty : TypeId) (B : Nat) (v : Value) (l : List UInt8) (s : ByteArray) (h : OwnG w B v l) (hB : B ≤ w.heap.size) (hl : l.length + s.size ≤ 1099511627776) :
    ∃ v' w', (Builtin.append_ #[30, 9] ty #[v, .string s]).run Tryd.prog w = .ok v' w' ∧ OwnG w' B v' (l ++ s.data.toList) ∧ Below B w w' ∧ Kt w w' := by
  have h' := h
  obtain ⟨g, cap, cur, fz, rfl, hbg, hg, hf, hnc, hcm, hcs, ht⟩ := h'
  obtain ⟨i0, hi, hz0, hz1, hz2⟩ := info_parts info_u8
  have hsl : s.data.toList.length = s.size := size_l s
  have hsc : Lib.strCells s = bv s.data.toList := rfl
  by_cases hr : l.length + s.size ≤ cap
  · have hfc := Lib.run_firstCells_string (P := Tryd.prog) w 1 s
    have hst := storeG Tryd.prog g l.length cur.size 5 fz hf (Lib.strCells s) 0 cur w hg rfl (by rw [hsc, bv_len, hsl, hcs]; simpa using hr) (Lib.strCells_oneCell s)
    simp only [Nat.add_zero, Lib.strCells_length] at hst
    obtain ⟨o1, o2⟩ := ownG_room (k := s.data.toList) hbg hg hf (by rw [hsl]; exact hr) hcm hcs ht
    rw [hsl, ← hsc] at o1 o2
    refine ⟨_, _, ?_, o1, o2, kt_row hg _⟩
    clear hsc
    simp [Builtin.append_, run_underlying Tryd.underlying30, run_underlying Tryd.underlying9, sizeOf, typeInfo, hi, hz1, Builtin.lenOf, hr, hfc, Addr.add_lit, hst]
  · have hg2 := Lib.run_append_grow_string (P := Tryd.prog) w 30 9 ty 5 i0 _ Tryd.underlying30 Tryd.underlying9 hi hz0 ⟨g, 0, none⟩ l.length cap (bv l) (by rw [hz1, bv_len, Nat.mul_one]) (fun j u hu => by
      have hj : j < l.length := by
        rcases Nat.lt_or_ge j l.length with h' | h'
        · exact h'
        · rw [List.getElem?_eq_none (by rw [bv_len]; exact h')] at hu; cases hu
      rw [add_j, ownG_cells h j hj, ← hu]
      simp [bv, hj]) s (by omega) (by omega) (by rw [hz2]; exact growslice_fits (by omega) (by omega))
    obtain ⟨o1, o2⟩ := ownG_grow (w := w) (B := B) (l := l) (k := s.data.toList) cap hB (by rw [hsl]; exact hl)
    rw [hsl] at o1 o2
    exact ⟨_, _, hg2, o1, o2, Kt.below (((Below.refl _ _).drew).alloc (Nat.le_refl _) _)⟩
end Lr
end Go.Proofs.YtkcncepfncdbhaaDoor

namespace Go.Proofs.YtkcncepfncdbhaaDoor
namespace Lr
open Go.RowKit
open TextMath (b64 fold)
set_option linter.unusedVariables false
set_option maxRecDepth 100000

/-- What the inner loop has written of a record. -/
def mid (D : List RC) (i : Nat) (nm : List UInt8) (ps : List PR) (k : Nat) : List UInt8 := ren (D.take i) ++ [10] ++ lin dnB nm ++ ((ps.take k).flatMap fun p => lin p.1 p.2)
theorem mid_zero (D : List RC) (i : Nat) (nm : List UInt8) (ps : List PR) : mid D i nm ps 0 = ren (D.take i) ++ [10] ++ lin dnB nm := by simp [mid]
theorem mid_snoc (D : List RC) (i : Nat) (nm : List UInt8) (ps : List PR) (k : Nat) (h : k < ps.length) : mid D i nm ps (k + 1) = mid D i nm ps k ++ lin ps[k].1 ps[k].2 := by
  unfold mid
  rw [lins_snoc ps k h, ← List.append_assoc]
theorem mid_all (D : List RC) (i : Nat) (nm : List UInt8) (ps : List PR) (k : Nat) (h : ps.length ≤ k) : mid D i nm ps k = ren (D.take i) ++ 10 :: rec1 (nm, ps) := by
  unfold mid rec1
  rw [List.take_of_length_le h]
  simp
theorem mid_len (D : List RC) (i : Nat) (nm : List UInt8) (ps : List PR) (k : Nat) (hD : wt D ≤ 1048576) (hw : wRc (nm, ps) ≤ 1048576) : (mid D i nm ps k).length ≤ 16777216 := by
  unfold mid
  have h1 := ren_len (D.take i)
  have h2 := wt_take D i
  have h3 := lin_len dnB nm
  have h4 := lins_len (ps.take k)
  have h5 : ((ps.take k).map wp).sum ≤ (ps.map wp).sum := by
    have e : (ps.map wp).sum = ((ps.take k).map wp).sum + ((ps.drop k).map wp).sum := by rw [← List.sum_append, ← List.map_append, List.take_append_drop]
    omega
  have h6 : nm.length + 4 + (ps.map wp).sum ≤ 1048576 := hw
  have h7 : dnB.length = 2 := rfl
  simp only [List.length_append, List.length_cons, List.length_nil]
  omega
theorem pf_cases (b : Bool) (d : List UInt8) : (okD d = false ∧ pf b d = 75) ∨ (okD d = true ∧ (b && chg d) = true ∧ pf b d = 78) ∨ (okD d = true ∧ (b && chg d) = false ∧ pf b d = 0) := by
  unfold pf
  cases ho : okD d with
  | false =>
    left
    have hc : chg d = false := by
      rw [Bool.eq_false_iff]
      intro h
      rw [chg_ok d h] at ho
      cases ho
    rw [hc]
    simp
  | true =>
    right
    cases hb : (b && chg d)
    · right; simp
    · left; simp
theorem ownG_below {w w' : World} {B : Nat} {v : Value} {l : List UInt8} (h : OwnG w B v l) (hb : Below w.heap.size w w') : OwnG w' B v l := by
  obtain ⟨g, cap, cur, fz, h1, h2, h3, h4⟩ := h
  exact ⟨g, cap, cur, fz, h1, h2, by rw [hb.block g (Array.getElem?_eq_some_iff.1 h3).1]; exact h3, h4⟩
theorem ownG_slice {w : World} {B : Nat} {v : Value} {l : List UInt8} (h : OwnG w B v l) : ∃ a n c, v = .slice a n c := by
  obtain ⟨g, cap, cur, fz, rfl, _⟩ := h
  exact ⟨_, _, _, rfl⟩
set_option maxHeartbeats 4000000 in
theorem rRender_any (a : Option Addr) (c : Nat) (L : List RX) (w : World) (hr : RRow w a L) (hz : wt (L.map said) ≤ 1048576) :
    Calls Tryd.prog 4 #[.slice a L.length c] w fun e w' => e = .returned (renV (L.map said)) ∧ Below w.heap.size w w' := by
  have hlen := wt_len (L.map said)
  rw [List.length_map] at hlen
  have nb : (L.length : Int) ≤ 1048576 := by omega
  obtain ⟨D, hD⟩ : ∃ D, L.map said = D := ⟨_, rfl⟩
  have hDl : Hid (D.length = L.length) := by unfold Hid; rw [← hD, List.length_map]
  have hDi : Hid (∀ i (hi : i < L.length) (hi' : i < D.length), D[i] = said L[i]) := fun i hi hi' => by subst hD; simp
  rw [hD] at hz ⊢
  by_cases h0 : L = []
  · subst h0
    have hD0 : D = [] := by rw [← hD]; rfl
    subst hD0
    clear hr hz hlen hD
    go_enter Tryd.func4, Tryd.ntmps4
    go_wp2_with fail
    go_ret3
    exact ⟨rfl, Below.refl _ _⟩
  · obtain ⟨n, hn⟩ : ∃ n, L.length = n := ⟨_, rfl⟩
    have hn0 : ((n : Int) == 0) = false := by
      have : n ≠ 0 := fun e => h0 (List.eq_nil_of_length_eq_zero (by omega))
      simp; omega
    have hne : Hid (D ≠ []) := fun e => h0 (List.eq_nil_of_length_eq_zero (by rw [← hDl.out, e]; rfl))
    have hn' : Hid (L.length = n) := hn
    have hr' : Hid (RRow w a L) := hr
    have hz' : Hid (wt D ≤ 1048576) := hz
    obtain ⟨W0, hW0⟩ : ∃ W0, w.alloc (.cells #[.int .u8 118, .int .u8 101, .int .u8 114, .int .u8 115, .int .u8 105, .int .u8 111, .int .u8 110, .int .u8 58, .int .u8 32, .int .u8 49, .int .u8 10] 5 (11, 12)) = W0 := ⟨_, rfl⟩
    have hcv : (convert 30 30 (.slice (some ⟨w.heap.size, 0, none⟩) 11 11)).run Tryd.prog (w.alloc (.cells #[.int .u8 118, .int .u8 101, .int .u8 114, .int .u8 115, .int .u8 105, .int .u8 111, .int .u8 110, .int .u8 58, .int .u8 32, .int .u8 49, .int .u8 10] 5)) = .ok (.slice (some ⟨w.heap.size, 0, none⟩) 11 11) W0 := by
      rw [← hW0]
      exact Lib.run_convert_bytes_const w 30 5 _ 11 11 Tryd.underlying30 Tryd.underlying5
    have hO0 : Hid (OwnG W0 w.heap.size (.slice (some ⟨w.heap.size, 0, none⟩) 11 11) verB) := by
      rw [← hW0]
      exact ⟨w.heap.size, 11, _, (11, 12), rfl, Nat.le_refl _, heap_alloc_new _ _, Or.inr (by decide), by decide, by unfold maxLen; omega, rfl, rfl⟩
    have hB0 : Hid (Below w.heap.size w W0) := by unfold Hid; rw [← hW0]; exact (Below.refl _ _).alloc (Nat.le_refl _) _
    rw [hn] at nb ⊢
    clear hr hz hlen hD h0 hn
    go_enter Tryd.func4, Tryd.ntmps4
    go_wp2_with fail
    go_loopw [5, 6] (fun v iv wr => ∃ (i : Nat) (oa : Option Addr) (on oc : Nat), iv = .int .i64 (i : Int) ∧ v = .slice oa on oc ∧ i ≤ n ∧ Hid (∀ j (h : j < D.length), j < i → rf D[j] = 0) ∧ Hid (OwnG wr w.heap.size (.slice oa on oc) (ren (D.take i)) ∧ Below w.heap.size w wr)) (fun _ iv _ => n - (intOf iv).toNat)
    case atStart => exact ⟨0, _, _, _, rfl, rfl, Nat.zero_le _, fun j _ h => by omega, by unfold Hid ren; exact ⟨by simpa using hO0.out, hB0.out⟩⟩
    case round =>
      obtain ⟨i, oa, on, oc, rfl, rfl, hi, hall, hB⟩ := hrel
      clear hO0 hB0 hW0
      obtain ⟨wo, hwo⟩ : ∃ wo, wo = wr := ⟨_, rfl⟩
      subst hwo
      have i0 : (0 : Int) ≤ (i : Int) := Int.natCast_nonneg _
      by_cases hlt : i < n
      · have i1 : (i : Int) < (n : Int) := Int.ofNat_lt.2 hlt
        have hiL : i < L.length := by rw [hn'.out]; exact hlt
        have hiD : i < D.length := by rw [hDl.out]; exact hiL
        have hRw := hr'.out.below hB.out.2
        obtain ⟨rb, ro, rfl, c1, c2, c3⟩ := rrow_at hRw i hiL
        have hpr := (hr'.out.2 _ (List.getElem_mem hiL)).1
        have hdi := hDi.out i hiL hiD
        have hwi : wRc D[i] ≤ 1048576 := Nat.le_trans (wr_le D D[i] (List.getElem_mem hiD)) hz'.out
        have hsn := ren_snoc D i hiD
        have hbad : Hid (rf D[i] ≠ 0 → renV D = .tuple #[.string ⟨#[]⟩, .int .i64 (rf D[i] : Int), .int .i64 (i : Int)]) := fun e => renV_bad D i hiD hall.out e
        have hnext : Hid (rf D[i] = 0 → ∀ j (h : j < D.length), j < i + 1 → rf D[j] = 0) := fun e j h hj => by
          by_cases e2 : j = i
          · subst e2; exact e
          · exact hall.out j h (by omega)
        rw [hdi] at hwi hsn hbad hnext
        generalize L[i] = r at *
        obtain ⟨ln, nm, pa, pc, ps⟩ := r
        dsimp only [said] at hwi hsn hbad hnext hpr c1 c2 c3
        obtain ⟨N, hN⟩ : ∃ N, S nm = N := ⟨_, rfl⟩
        obtain ⟨m, hm⟩ : ∃ m, ps.length = m := ⟨_, rfl⟩
        rw [hN] at c2
        rw [hm] at c3
        have hm' : Hid (ps.length = m) := hm
        have hwn : Hid (nm.length ≤ 1048576 ∧ ∀ k (hk : k < ps.length), ps[k].1.length + ps[k].2.length ≤ 1048576) := by
          refine ⟨by unfold wRc at hwi; simp only at hwi; omega, fun k hk => ?_⟩
          have := wp_le (nm, ps) ps[k] (List.getElem_mem hk)
          unfold wp at this
          unfold wRc at this hwi
          simp only at this hwi
          omega
        have hml : Hid (∀ k, (mid D i nm ps k).length ≤ 16777216) := fun k => mid_len D i nm ps k hz'.out hwi
        have mb : (m : Int) ≤ 1048576 := by have := wp_len (nm, ps); simp only at this; omega
        obtain ⟨W2, hW2⟩ : ∃ W2, wo.alloc (.cells #[.int .i64 ln, .string N, .slice pa m pc] 33) = W2 := ⟨_, rfl⟩
        have hx2 : W2.heap[wo.heap.size]? = some (.cells #[.int .i64 ln, .string N, .slice pa m pc] 33 (0, 0)) := by rw [← hW2]; exact heap_alloc_new _ _
        have hb2 : Below wo.heap.size wo W2 := by rw [← hW2]; exact (Below.refl _ _).alloc (Nat.le_refl _) _
        have hB2 : Hid (OwnG W2 w.heap.size (.slice oa on oc) (ren (D.take i)) ∧ Below w.heap.size w W2) := ⟨ownG_below hB.out.1 hb2, hB.out.2.trans (hb2.mono hB.out.2.size)⟩
        have d1 : W2.cell? ⟨wo.heap.size, 1, none⟩ = some (.string N) := by rw [cell_of_row _ _ _ _ _ _ hx2]; rfl
        have d2 : W2.cell? ⟨wo.heap.size, 2, none⟩ = some (.slice pa m pc) := by rw [cell_of_row _ _ _ _ _ _ hx2]; rfl
        have hx2' : Hid (W2.heap[wo.heap.size]? = some (.cells #[.int .i64 ln, .string N, .slice pa m pc] 33 (0, 0))) := hx2
        have hsn' : Hid (ren (D.take (i + 1)) = ren (D.take i) ++ 10 :: rec1 (nm, ps)) := hsn
        have hpr' : Hid (PRow w pa ps) := hpr
        have hlt' : Hid (i < n) := hlt
        have hall' : Hid (∀ j (h : j < D.length), j < i → rf D[j] = 0) := hall
        have hwi' : Hid (wRc (nm, ps) ≤ 1048576) := hwi
        have hl0 : Hid ((ren (D.take i)).length ≤ 3145739) := by
          have h1 := ren_len (D.take i)
          have h2 := wt_take D i
          have h3 := hz'.out
          unfold Hid
          omega
        by_cases hps : ps = []
        · have hrf : Hid (renV D = .tuple #[.string ⟨#[]⟩, .int .i64 79, .int .i64 (i : Int)]) := by
            have e : rf (nm, ps) = 79 := by unfold rf; rw [if_pos hps]
            have := hbad.out (by rw [e]; decide)
            rw [e] at this
            exact this
          have hm0 : ((m : Int) == 0) = true := by rw [← hm, hps]; rfl
          have H2 : Hid (Below w.heap.size w W2) := hB2.out.2
          clear hN hm hx2 hb2 hpr hdi hwi hsn hRw hall hi hlt hiL hiD hB hps hnext hbad
          go_wp2_with fail
          go_ret3
          exact ⟨by rw [hrf.out]; rfl, H2.out⟩
        · have hm0 : ((m : Int) == 0) = false := by
            have : m ≠ 0 := fun e => hps (List.eq_nil_of_length_eq_zero (by omega))
            simp; omega
          have hrf : Hid (rf (nm, ps) = pfs true ps) := by unfold Hid rf; rw [if_neg hps]
          have hLn : Hid (Calls Tryd.prog 9 #[.string { data := #[100, 110] }, .string N] W2 fun e w' => e = .returned (.string (S (lin dnB nm))) ∧ Below W2.heap.size W2 w') := by
            have := rLine_any { data := #[100, 110] } N W2 (by rw [← hN, S_size]; have := hwn.out.1; show 2 + 2 * nm.length ≤ 8388608; omega)
            rw [← hN, S_l] at this
            rw [← hN]
            exact this
          clear hN hm hx2 hb2 hpr hdi hwi hsn hRw hall hi hlt hiL hiD hB hps
          go_upto_region 11 with (go_at_call 9; refine hLn.out.mono ?_; rintro e w3 ⟨rfl, hb3⟩)
          have hb3a : Below w3.heap.size w3 (w3.alloc (.cells #[.int .u8 10] 5)) := (Below.refl _ _).alloc (Nat.le_refl _) _
          have hBs : Below w.heap.size w w3 := hB2.out.2.trans (hb3.mono hB2.out.2.size)
          obtain ⟨v4, w4, e4, o4, b4, k4⟩ := append_byteK (w3.alloc (.cells #[.int .u8 10] 5)) 30 w.heap.size (.slice oa on oc) _ 10 w3.heap.size (ownG_below (ownG_below hB2.out.1 hb3) hb3a) (heap_alloc_new _ _) (by have := hBs.size; simp; omega) (by have := hl0.out; omega)
          have hB4 : Below w.heap.size w w4 := (hBs.trans (hb3a.mono hBs.size)).trans b4
          obtain ⟨v5, w5, e5, o5, b5, k5⟩ := append_strK w4 30 w.heap.size v4 _ (S (lin dnB nm)) o4 hB4.size (by have h1 := hl0.out; have h2 := lin_len dnB nm; have h3 := hwn.out.1; have h4 : dnB.length = 2 := rfl; rw [List.length_append, S_size]; simp; omega)
          rw [S_l] at o5
          obtain ⟨a4, n4, c4, rfl⟩ := ownG_slice o4
          obtain ⟨a5, n5, c5, rfl⟩ := ownG_slice o5
          have H5 : Hid (OwnG w5 w.heap.size (.slice a5 n5 c5) (mid D i nm ps 0) ∧ Below w.heap.size w w5 ∧ Kt W2 w5) := by
            refine ⟨by rw [mid_zero]; exact o5, hB4.trans b5, (Kt.below hb3).trans ((Kt.below hb3a).trans (k4.trans k5))⟩
          generalize S (lin dnB nm) = E1 at *
          clear hb3a hBs o4 b4 k4 hB4 o5 b5 k5 hb3 d1 d2 hLn hW2 hB2
          go_wp2_with (first
            | (at_builtin; refine Lib.wpList_append_run _ rfl _ _ _ _ rfl _ _ rfl rfl _ _ e4 ?_; clear e4)
            | (at_builtin; refine Lib.wpList_append_run _ rfl _ _ _ _ rfl _ _ rfl rfl _ _ e5 ?_; clear e5))
          go_loopw [5, 9] (fun v kv wr => ∃ (k : Nat) (oa : Option Addr) (on oc : Nat), kv = .int .i64 (k : Int) ∧ v = .slice oa on oc ∧ k ≤ m ∧ Hid (∀ j (h : j < ps.length), j < k → pf (true && decide (j = 0)) ps[j].1 = 0) ∧ Hid (OwnG wr w.heap.size (.slice oa on oc) (mid D i nm ps k) ∧ Below w.heap.size w wr ∧ Kt W2 wr)) (fun _ kv _ => m - (intOf kv).toNat)
          case atStart => exact ⟨0, _, _, _, rfl, rfl, Nat.zero_le _, fun j _ h => by omega, H5⟩
          case round =>
            obtain ⟨k, qa, qn, qc, rfl, rfl, hk, hpf, hQ⟩ := hrel
            clear H5
            obtain ⟨wq, hwq⟩ : ∃ wq, wq = wr := ⟨_, rfl⟩
            subst hwq
            have k0 : (0 : Int) ≤ (k : Int) := Int.natCast_nonneg _
            have hxq := kt_box hQ.out.2.2 hx2'.out (by decide) (by decide)
            have f2 : wq.cell? ⟨wo.heap.size, 2, none⟩ = some (.slice pa m pc) := by rw [cell_of_row _ _ _ _ _ _ hxq]; rfl
            by_cases hkm : k < m
            · have k1 : (k : Int) < (m : Int) := Int.ofNat_lt.2 hkm
              have hkP : k < ps.length := by rw [hm'.out]; exact hkm
              obtain ⟨pb, po, rfl, p1, p2⟩ := prow_at (hpr'.out.below pV_len hQ.out.2.1) k hkP
              have hsz := hwn.out.2 k hkP
              obtain ⟨d, hd⟩ : ∃ d, S ps[k].1 = d := ⟨_, rfl⟩
              obtain ⟨v, hv⟩ : ∃ v, S ps[k].2 = v := ⟨_, rfl⟩
              rw [hd] at p1
              rw [hv] at p2
              have hds : d.size ≤ 1048576 := by rw [← hd, S_size]; omega
              have hID : Hid (Calls Tryd.prog 10 #[.string d] wq fun e w' => e = .returned (.bool (okD ps[k].1)) ∧ Below wq.heap.size wq w') := by
                have := rIsDesc_any d wq (by omega)
                rw [← hd, S_l] at this
                rw [← hd]
                exact this
              have hIC : Hid (∀ W, Calls Tryd.prog 11 #[.string d] W fun e w' => e = .returned (.bool (chg ps[k].1)) ∧ Below W.heap.size W w') := fun W => by
                have := rIsChange_any d W (by omega)
                rw [← hd, S_l] at this
                rw [← hd]
                exact this
              have hLi : Hid (∀ W, Calls Tryd.prog 9 #[.string d, .string v] W fun e w' => e = .returned (.string (S (lin ps[k].1 ps[k].2))) ∧ Below W.heap.size W w') := fun W => by
                have := rLine_any d v W (by rw [← hd, ← hv, S_size, S_size]; omega)
                rw [← hd, ← hv, S_l, S_l] at this
                rw [← hd, ← hv]
                exact this
              have hpbad : Hid (∀ F, pf (true && decide (k = 0)) ps[k].1 = F → F ≠ 0 → renV D = .tuple #[.string ⟨#[]⟩, .int .i64 (F : Int), .int .i64 (i : Int)]) := fun F e hF => by
                have h1 := pfs_at ps true k hkP (fun j h hj => hpf.out j h hj) (by rw [e]; exact hF)
                have h2 : rf (nm, ps) = F := by rw [hrf.out, h1, e]
                have := hbad.out (by rw [h2]; exact hF)
                rw [h2] at this
                exact this
              have hpnext : Hid (pf (true && decide (k = 0)) ps[k].1 = 0 → ∀ j (h : j < ps.length), j < k + 1 → pf (true && decide (j = 0)) ps[j].1 = 0) := fun e j h hj => by
                by_cases e2 : j = k
                · subst e2; exact e
                · exact hpf.out j h (by omega)
              have hmsn : Hid (mid D i nm ps (k + 1) = mid D i nm ps k ++ lin ps[k].1 ps[k].2) := mid_snoc D i nm ps k hkP
              have hlz : Hid ((lin ps[k].1 ps[k].2).length ≤ 4194304) := by have := lin_len ps[k].1 ps[k].2; unfold Hid; omega
              have hpc := pf_cases (true && decide (k = 0)) ps[k].1
              have hkm' : Hid (k < m) := hkm
              have hBq : Hid (Below w.heap.size w wq) := hQ.out.2.1
              have hcl : Hid (∀ W, Below wq.heap.size wq W → W.cell? ⟨wo.heap.size, 2, none⟩ = some (.slice (some ⟨pb, po, none⟩) m pc) ∧ W.cell? ⟨pb, po + k * 2, none⟩ = some (.string d) ∧ W.cell? ⟨pb, po + k * 2 + 1, none⟩ = some (.string v)) := fun W hW => by
                refine ⟨?_, ?_, ?_⟩
                · rw [hW.cell (World.block_lt_of_cell? wq _ f2)]; exact f2
                · rw [hW.cell (World.block_lt_of_cell? wq _ p1)]; exact p1
                · rw [hW.cell (World.block_lt_of_cell? wq _ p2)]; exact p2
              generalize pf (true && decide (k = 0)) ps[k].1 = F at *
              generalize okD ps[k].1 = ok at *
              generalize chg ps[k].1 = ch at *
              generalize lin ps[k].1 ps[k].2 = LL at *
              clear hd hv hpf hk hkm hkP hsz hxq hds
              rcases hpc with ⟨rfl, rfl⟩ | ⟨rfl, hc, rfl⟩ | ⟨rfl, hc, rfl⟩
              · have hres : Hid (renV D = .tuple #[.string ⟨#[]⟩, .int .i64 75, .int .i64 (i : Int)]) := hpbad.out 75 rfl (by decide)
                go_wp2_with (go_at_call 10; refine hID.out.mono ?_; rintro e w6 ⟨rfl, hb6⟩)
                go_ret3
                exact ⟨by rw [hres.out]; rfl, hBq.out.trans (hb6.mono hBq.out.size)⟩
              · have hres : Hid (renV D = .tuple #[.string ⟨#[]⟩, .int .i64 78, .int .i64 (i : Int)]) := hpbad.out 78 rfl (by decide)
                rw [Bool.true_and, Bool.and_eq_true, decide_eq_true_eq] at hc
                obtain ⟨hk0, rfl⟩ := hc
                have hkb : ((k : Int) == 0) = true := by simp; omega
                clear hk0
                go_wp2_with (first
                  | (refine (Hid.out H6 |> fun _ => ?_); go_at_call 11; refine (hIC.out w6).mono ?_; rintro e w7 ⟨rfl, hb7⟩)
                  | (go_at_call 10; refine hID.out.mono ?_; rintro e w6 ⟨rfl, hb6⟩; have H6 : Hid (Below wq.heap.size wq w6) := hb6; obtain ⟨g1, g2, g3⟩ := hcl.out w6 hb6; clear hb6))
                go_ret3
                exact ⟨by rw [hres.out]; rfl, hBq.out.trans ((H6.out.trans (hb7.mono H6.out.size)).mono hBq.out.size)⟩
              · have hnx : Hid (∀ j (h : j < ps.length), j < k + 1 → pf (true && decide (j = 0)) ps[j].1 = 0) := hpnext.out rfl
                clear hpbad hpnext
                by_cases hk0 : k = 0
                · have hch : ch = false := by
                    rw [Bool.true_and, decide_eq_true hk0, Bool.true_and] at hc
                    exact hc
                  subst hch
                  have hkb : ((k : Int) == 0) = true := by simp; omega
                  clear hc hk0
                  go_upto_region 21 with (first
                    | (refine (Hid.out H6 |> fun _ => ?_); go_at_call 11; refine (hIC.out w6).mono ?_; rintro e w7 ⟨rfl, hb7⟩; have H7 : Hid (Below wq.heap.size wq w7) := H6.out.trans (hb7.mono H6.out.size); clear hb7)
                    | (go_at_call 10; refine hID.out.mono ?_; rintro e w6 ⟨rfl, hb6⟩; have H6 : Hid (Below wq.heap.size wq w6) := hb6; obtain ⟨g1, g2, g3⟩ := hcl.out w6 hb6; clear hb6))
                  clear g1 g2 g3
                  have HD : Hid (Below wq.heap.size wq w7.drew) := H7.out.trans ((drewN_below w7 w7.heap.size 1).mono H7.out.size)
                  have cd := hcl.out w7.drew HD.out
                  go_region_held3 (fun w' => w'.cell? ⟨wo.heap.size, 2, none⟩ = some (.slice (some ⟨pb, po, none⟩) m pc) ∧ w'.cell? ⟨pb, po + k * 2, none⟩ = some (.string d) ∧ w'.cell? ⟨pb, po + k * 2 + 1, none⟩ = some (.string v))
                    (first | exact cc8 | exact cd)
                    (first | (go_at_call 9; refine (hLi.out w7.drew).mono ?_; rintro e w8 ⟨rfl, hb8⟩; have H8 : Hid (Below wq.heap.size wq w8) := HD.out.trans (hb8.mono HD.out.size); have cc8 := hcl.out w8 H8.out; clear hb8))
                  clear cd cc8
                  have hB8 : Below w.heap.size w w8 := hBq.out.trans (H8.out.mono hBq.out.size)
                  obtain ⟨v9, w9, e9, o9, b9, k9⟩ := append_strK w8 30 w.heap.size (.slice qa qn qc) _ (S LL) (ownG_below hQ.out.1 H8.out) hB8.size (by have h1 := hml.out k; have h2 := hlz.out; rw [S_size]; omega)
                  rw [S_l, ← hmsn.out] at o9
                  obtain ⟨a9, n9, c9, rfl⟩ := ownG_slice o9
                  have hfin : Hid (OwnG w9 w.heap.size (.slice a9 n9 c9) (mid D i nm ps (k + 1)) ∧ Below w.heap.size w w9 ∧ Kt W2 w9) := ⟨o9, hB8.trans b9, hQ.out.2.2.trans ((Kt.below H8.out).trans k9)⟩
                  clear o9 b9 k9 hB8
                  go_wp2_with (at_builtin; refine Lib.wpList_append_run _ rfl _ _ _ _ rfl _ _ rfl rfl _ _ e9 ?_; clear e9)
                  go_roundw
                  case rel => exact ⟨k + 1, _, _, _, by simp, rfl, hkm'.out, hnx, hfin⟩
                  case measure => have := hkm'.out; simp [intOf]; omega
                · have hkb : ((k : Int) == 0) = false := by simp; omega
                  clear hc hk0
                  go_upto_region 21 with (go_at_call 10; refine hID.out.mono ?_; rintro e w6 ⟨rfl, hb6⟩; have H6 : Hid (Below wq.heap.size wq w6) := hb6; obtain ⟨g1, g2, g3⟩ := hcl.out w6 hb6; clear hb6)
                  clear g1 g2 g3
                  have HD : Hid (Below wq.heap.size wq w6.drew) := H6.out.trans ((drewN_below w6 w6.heap.size 1).mono H6.out.size)
                  have cd := hcl.out w6.drew HD.out
                  go_region_held3 (fun w' => w'.cell? ⟨wo.heap.size, 2, none⟩ = some (.slice (some ⟨pb, po, none⟩) m pc) ∧ w'.cell? ⟨pb, po + k * 2, none⟩ = some (.string d) ∧ w'.cell? ⟨pb, po + k * 2 + 1, none⟩ = some (.string v))
                    (first | exact cc8 | exact cd)
                    (first | (go_at_call 9; refine (hLi.out w6.drew).mono ?_; rintro e w8 ⟨rfl, hb8⟩; have H8 : Hid (Below wq.heap.size wq w8) := HD.out.trans (hb8.mono HD.out.size); have cc8 := hcl.out w8 H8.out; clear hb8))
                  clear cd cc8
                  have hB8 : Below w.heap.size w w8 := hBq.out.trans (H8.out.mono hBq.out.size)
                  obtain ⟨v9, w9, e9, o9, b9, k9⟩ := append_strK w8 30 w.heap.size (.slice qa qn qc) _ (S LL) (ownG_below hQ.out.1 H8.out) hB8.size (by have h1 := hml.out k; have h2 := hlz.out; rw [S_size]; omega)
                  rw [S_l, ← hmsn.out] at o9
                  obtain ⟨a9, n9, c9, rfl⟩ := ownG_slice o9
                  have hfin : Hid (OwnG w9 w.heap.size (.slice a9 n9 c9) (mid D i nm ps (k + 1)) ∧ Below w.heap.size w w9 ∧ Kt W2 w9) := ⟨o9, hB8.trans b9, hQ.out.2.2.trans ((Kt.below H8.out).trans k9)⟩
                  clear o9 b9 k9 hB8
                  go_wp2_with (at_builtin; refine Lib.wpList_append_run _ rfl _ _ _ _ rfl _ _ rfl rfl _ _ e9 ?_; clear e9)
                  go_roundw
                  case rel => exact ⟨k + 1, _, _, _, by simp, rfl, hkm'.out, hnx, hfin⟩
                  case measure => have := hkm'.out; simp [intOf]; omega
            · have e : m = k := by omega
              subst e
              have k1 : ¬ (m : Int) < (m : Int) := by omega
              have hr0 : rf (nm, ps) = 0 := by
                rw [hrf.out]
                exact pfs_all ps true (fun j h => hpf.out j h (by have := hm'.out; omega))
              have hnx : Hid (∀ j (h : j < D.length), j < i + 1 → rf D[j] = 0) := hnext.out hr0
              have hfin : Hid (OwnG wq w.heap.size (.slice qa qn qc) (ren (D.take (i + 1))) ∧ Below w.heap.size w wq) := by
                refine ⟨?_, hQ.out.2.1⟩
                have := hQ.out.1
                rw [mid_all D i nm ps m (by rw [hm'.out]; exact Nat.le_refl _), ← hsn'.out] at this
                exact this
              clear hpf hk hkm hQ hr0 hxq
              go_wp2_with fail
              go_roundw
              case rel => exact ⟨i + 1, _, _, _, by simp, rfl, hlt'.out, hnx, hfin⟩
              case measure => have := hlt'.out; simp [intOf]; omega
      · have e : n = i := by omega
        subst e
        have i1 : ¬ (n : Int) < (n : Int) := by omega
        have hres : Hid (renV D = .tuple #[.string (S (ren D)), .int .i64 0, .int .i64 0]) := renV_ok D hne.out (fun j hj => hall.out j hj (by have := hDl.out; have := hn'.out; omega))
        have hcv2 : (convert 30 9 (.slice oa on oc)).run Tryd.prog wo = .ok (.string (S (ren D))) wo := by
          have := ownG_conv hB.out.1
          rw [List.take_of_length_le (by rw [hDl.out, hn'.out]; exact Nat.le_refl _)] at this
          exact this
        have hBw : Hid (Below w.heap.size w wo) := hB.out.2
        clear hall hi hlt hB
        go_wp2_with fail
        go_ret3
        exact ⟨by rw [hres.out]; rfl, hBw.out⟩
end Lr
end Go.Proofs.YtkcncepfncdbhaaDoor
