import Derived.Test.YthpfnajgbocpnaaPtFrs
import Derived.Deep.DeepCutAuto
namespace Go.Proofs.Ythpfnajgbocpnaa
namespace Pt
open Go.RowKit Go.Sort Go.Lib
open PtMath (Inc setOf cnt)
open PtHpM (Hd)
open PtCnM (occ)
set_option linter.unusedVariables false
set_option maxRecDepth 100000
open PtT (Rk TB en)
variable {Tk : PtT.Rk} {sp : Nat}

/-- What the last loop looks at. -/
def UnC (Tk : PtT.Rk) (sp : Nat) (W : World) (oa ha la : Option Addr) (Os Ss : List Hd) : Prop :=
  SRow W oa Os ∧ SRow W ha Os ∧ SRow W la Ss ∧ lsts Os = lsts Ss ∧ (∀ h ∈ Ss, Rd Tk W h.1 h.2.1 h.2.2) ∧ (∃ B, ∀ h ∈ Os, Spd Tk sp W B h) ∧ tot (lsts Ss) + Ss.length ≤ 4194304
theorem UnC.below {W W' : World} {oa ha la : Option Addr} {Os Ss : List Hd} (h : UnC Tk sp W oa ha la Os Ss) (hb : Below W.heap.size W W') : UnC Tk sp W' oa ha la Os Ss := by
  obtain ⟨h1, h2, h3, h4, h5, ⟨B, h6⟩, h7⟩ := h
  exact ⟨h1.below hb, h2.below hb, h3.below hb, h4, fun x hx => (h5 x hx).below hb, ⟨B, fun x hx => (h6 x hx).below hb⟩, h7⟩
theorem getD0 {W : World} {a : Option Addr} {Ss : List Hd} (hr : SRow W a Ss) (i : Nat) (h : i < Ss.length) : ∃ b off, a = some ⟨b, off, none⟩ ∧ W.cell? ⟨b, off + i, none⟩ = some (hv (Ss.getD i nil0)) := by
  obtain ⟨b, off, e, c1⟩ := hr i h
  have e1 : Ss[i] = Ss.getD i nil0 := by simp [List.getD, h]
  rw [e1] at c1
  exact ⟨b, off, e, c1⟩
set_option maxRecDepth 1000000 in
set_option maxHeartbeats 8000000 in
theorem texts_walk (sa : Option Addr) (sc : Nat) (Ss : List Hd) (k : Int) (w : World) (h1 : SRow w sa Ss) (h2 : ∀ x ∈ Ss, Rd Tk w x.1 x.2.1 x.2.2) (hc : Ss.length ≤ sc) (hm : sc ≤ maxLen) (ht : tot (lsts Ss) + Ss.length ≤ 1048576) (hsp : TB Tk sp = { data := #[115, 112, 97, 114, 101] }) :
    Calls Try.prog 3 #[.slice sa Ss.length sc, .int .i64 k] w fun e w' => e = .returned (.bool true) ∧ Below w.heap.size w w' := by
  obtain ⟨n, hn0⟩ : ∃ n, Ss.length = n := ⟨_, rfl⟩
  have hn : Hid (Ss.length = n) := hn0
  have hLL : Hid (LL Tk w sa Ss) := ⟨h1, h2, ht⟩
  have hS : Hid (SRow w sa Ss ∧ (∀ x ∈ Ss, Rd Tk w x.1 x.2.1 x.2.2) ∧ tot (lsts Ss) + Ss.length ≤ 4194304) := ⟨h1, h2, by omega⟩
  have hspH : Hid (TB Tk sp = { data := #[115, 112, 97, 114, 101] }) := hsp
  have sb : (n : Int) ≤ 1048576 := by omega
  have ht' : Hid (tot (lsts Ss) + Ss.length ≤ 1048576) := ht
  rw [hn0]
  clear h1 h2 hn0 hsp ht hm hc
  go_enter Try.func3, Try.ntmps3
  go_wp2_with fail
  go_loopw [5, 6] (fun v ivv wr => ∃ (j : Nat) (Os : List Hd) (oa : Option Addr) (on oc : Nat), ivv = .int .i64 (j : Int) ∧ v = .slice oa on oc ∧ j ≤ n ∧ Hid (Os.length = j ∧ SpI Tk sp w Ss (.slice oa on oc) Os wr)) (fun _ ivv _ => n - (intOf ivv).toNat)
  case atStart => exact ⟨0, [], none, 0, 0, rfl, rfl, Nat.zero_le _, rfl, ownL_nil _ _, Nat.zero_le _, by simp [lsts], fun h hh => by simp at hh, Below.refl _ _⟩
  case round =>
    obtain ⟨j, Os, oa, on, oc, rfl, rfl, hj, hQ⟩ := hrel
    have j0 : (0 : Int) ≤ (j : Int) := Int.natCast_nonneg _
    by_cases hlt : j < n
    · have j1 : (j : Int) < (n : Int) := Int.ofNat_lt.2 hlt
      have hjS : j < Ss.length := by rw [hn.out]; exact hlt
      obtain ⟨b, off, rfl, v1, w1, g2, cap2, w2, a3, N3, c3, w3, Os', c1, e1, e2, c2, hsl, e3, l3, s3⟩ := spd_round hS.out hQ.out hjS
      rw [hspH.out] at e2
      have hfin : Hid (Os'.length = j + 1 ∧ SpI Tk sp w Ss (.slice a3 N3 c3) Os' w3) := ⟨l3, s3⟩
      have hlt' : Hid (j < n) := hlt
      generalize hxx : Ss[j] = x at *
      obtain ⟨xa, xc, xl⟩ := x
      dsimp only at c1 e1 e2 c2 hsl e3
      clear l3 s3 hxx hjS hlt hj hQ
      go_wp2_with (first
        | (at_builtin; refine Lib.wpList_append_run _ rfl _ _ _ _ rfl _ _ rfl rfl _ _ e1 ?_; clear e1)
        | (at_builtin; refine Lib.wpList_append_run _ rfl _ _ _ _ rfl _ _ rfl rfl _ _ e2 ?_; clear e2)
        | (at_builtin; refine Lib.wpList_append_run _ rfl _ _ _ _ rfl _ _ rfl rfl _ _ e3 ?_; clear e3))
      go_roundw
      case rel => exact ⟨j + 1, Os', _, _, _, by simp, rfl, hlt'.out, hfin⟩
      case measure => have := hlt'.out; simp [intOf]; omega
    have e : n = j := by omega
    subst e
    have j1 : ¬ (n : Int) < (n : Int) := by omega
    obtain ⟨w1, hw1⟩ : ∃ w1, w1 = wr := ⟨_, rfl⟩
    subst hw1
    obtain ⟨q6, i1, i2, i3, i4, i5⟩ := hQ.out
    have i6 : Os.length = Ss.length := q6.trans hn.out.symm
    obtain ⟨oa', oc', eo, so, soc, socm⟩ := ownL_slice i1
    injection eo with eo1 eo2 eo3
    subst eo1 eo2 eo3
    have ht := ht'.out
    obtain ⟨vh, w2, eh, oh, gh⟩ := appendL_row w1 w1.heap.size (.slice none 0 0) [] Os oa oc (ownL_nil _ _) so (Nat.le_refl _) (by simp; omega)
    have b2 : Below w1.heap.size w1 w2 := grown_below (ownL_nil w1 w1.heap.size) gh (Nat.le_refl _)
    rw [List.nil_append] at oh
    obtain ⟨ha, hcc, rfl, hsr, _, _⟩ := ownL_slice oh
    have o1 := oh
    rw [q6] at eh
    simp only [q6]
    obtain ⟨A0, hA0⟩ : ∃ A0, Ss.getD 0 nil0 = A0 := ⟨_, rfl⟩
    obtain ⟨A1, hA1⟩ : ∃ A1, Ss.getD 1 nil0 = A1 := ⟨_, rfl⟩
    obtain ⟨xa, xc, xl⟩ := A0
    obtain ⟨ya, yc, yl⟩ := A1
    have hAA : Hid (Ss.getD 0 nil0 = (xa, xc, xl) ∧ Ss.getD 1 nil0 = (ya, yc, yl)) := ⟨hA0, hA1⟩
    clear hA0 hA1
    have hD : lsts Os = lsts Ss := by rw [i3, i6, List.take_length]
    have hsz2 : Below w.heap.size w w2 := i5.trans (b2.mono i5.size)
    obtain ⟨B0, hB0⟩ : ∃ B0, Os.getD 0 nil0 = B0 := ⟨_, rfl⟩
    obtain ⟨B1, hB1⟩ : ∃ B1, Os.getD 1 nil0 = B1 := ⟨_, rfl⟩
    have hb0 : B0.2.2 = xl := by rw [← hB0, lsts_getD, hD, ← lsts_getD, hAA.out.1]
    have hb1 : B1.2.2 = yl := by rw [← hB1, lsts_getD, hD, ← lsts_getD, hAA.out.2]
    obtain ⟨ba, bc, bl⟩ := B0
    obtain ⟨da, dc, dl⟩ := B1
    dsimp only at hb0 hb1
    subst hb0 hb1
    have hxl : bl.length ≤ 1048576 := by
      have h1 : (Ss.getD 0 nil0).2.2.length ≤ tot (lsts Ss) := by
        by_cases e : 0 < Ss.length
        · have e1 : Ss.getD 0 nil0 = Ss[0] := by simp [List.getD, e]
          rw [e1]; exact tot_take _ (List.mem_map_of_mem (f := fun h : Hd => h.2.2) (List.getElem_mem e))
        · have e1 : Ss.getD 0 nil0 = nil0 := by simp [List.getD, e]
          rw [e1]; simp
      rw [hAA.out.1] at h1
      dsimp only at h1
      omega
    have hyl : dl.length ≤ 1048576 := by
      have h1 : (Ss.getD 1 nil0).2.2.length ≤ tot (lsts Ss) := by
        by_cases e : 1 < Ss.length
        · have e1 : Ss.getD 1 nil0 = Ss[1] := by simp [List.getD, e]
          rw [e1]; exact tot_take _ (List.mem_map_of_mem (f := fun h : Hd => h.2.2) (List.getElem_mem e))
        · have e1 : Ss.getD 1 nil0 = nil0 := by simp [List.getD, e]
          rw [e1]; simp
      rw [hAA.out.2] at h1
      dsimp only at h1
      omega
    have hoa : SRow w1 oa Os ∧ Os.length ≤ oc := ⟨so, soc⟩
    have hha : SRow w2 ha Os := hsr
    have hOl : ∀ x ∈ Os, x.2.2.length ≤ 4194304 := fun x hx => by
      have h1 := tot_take (lsts Os) (List.mem_map_of_mem (f := fun h : Hd => h.2.2) hx)
      rw [hD] at h1
      omega
    have hG : ∀ W, Below w2.heap.size w2 W → LL Tk W oa Os ∧ LL Tk W sa Ss ∧ Rd Tk W ba bc bl ∧ Rd Tk W da dc dl ∧ Rd Tk W xa xc bl ∧ Rd Tk W ya yc dl ∧ UnC Tk sp W oa ha sa Os Ss := fun W hW => by
      have hW1 : Below w1.heap.size w1 W := b2.trans (hW.mono b2.size)
      have hW0 : Below w.heap.size w W := hsz2.trans (hW.mono hsz2.size)
      have l1 : LL Tk W oa Os := ⟨hoa.1.below hW1, fun x hx => ((i4 x hx).below hW1).rd (hOl x hx), by rw [hD, i6]; exact ht⟩
      have l2 : LL Tk W sa Ss := hLL.out.below hW0
      have g0 := rd_getD l1.2.1 0
      have g1 := rd_getD l1.2.1 1
      have g2 := rd_getD l2.2.1 0
      have g3 := rd_getD l2.2.1 1
      rw [hB0] at g0
      rw [hB1] at g1
      rw [hAA.out.1] at g2
      rw [hAA.out.2] at g3
      exact ⟨l1, l2, g0, g1, g2, g3, l1.1, hha.below hW, l2.1, hD, l2.2.1, ⟨w.heap.size, fun x hx => (i4 x hx).below hW1⟩, by omega⟩
    have hOn : Os.length = n := i6.trans hn.out
    obtain ⟨D, hDD⟩ : ∃ D, lsts Ss = D := ⟨_, rfl⟩
    obtain ⟨La, hLa⟩ : ∃ La, setOf bl = La := ⟨_, rfl⟩
    obtain ⟨Lm, hLm⟩ : ∃ Lm, mns (setOf bl) (setOf dl) = Lm := ⟨_, rfl⟩
    have hOf : ∀ W, Hid (Below w2.heap.size w2 W → Calls Try.prog 5 #[.slice ba bl.length bc] W fun e w' => ∃ a c, e = .returned (.slice a La.length c) ∧ Rd Tk w' a c La ∧ Below W.heap.size W w') := fun W hW => by
      have g := (hG W hW).2.2.1
      have := of_call _ ba bl bc W g.2.2.2 (of_any ba bl bc W g.1 g.2.2.2)
      rw [hLa] at this
      exact this
    have hSo : ∀ W, Hid (Below w2.heap.size w2 W → Calls Try.prog 6 #[.slice xa bl.length xc] W fun e w' => ∃ a c, e = .returned (.slice a La.length c) ∧ Rd Tk w' a c La ∧ Below W.heap.size W w') := fun W hW => by
      have g := (hG W hW).2.2.2.2.1
      have := of_call _ xa bl xc W g.2.2.2 (sorted_any bl.length xa bl xc W (Nat.le_refl _) g.1 g.2.1 (by omega))
      rw [hLa] at this
      exact this
    have hRi : ∀ W, Hid (Below w2.heap.size w2 W → Calls Try.prog 7 #[.slice ba bl.length bc] W fun e w' => e = .returned (.bool (decide (Inc bl))) ∧ Below W.heap.size W w') := fun W hW => by
      have g := (hG W hW).2.2.1
      refine Calls.mono (rising_any bl ba bc W (by omega) g.1) ?_
      rintro e w' ⟨rfl, q, rfl⟩
      exact ⟨rfl, below_drewN _ _ _⟩
    have hRr : ∀ W, Hid (Below w2.heap.size w2 W → Calls Try.prog 8 #[.slice xa bl.length xc] W fun e w' => e = .returned (.bool (decide (Inc bl))) ∧ Below W.heap.size W w') := fun W hW => rRising_any xa bl xc W (hG W hW).2.2.2.2.1 (by omega)
    have hUn : ∀ W, Hid (Below w2.heap.size w2 W → Calls Try.prog 9 #[.slice oa n oc] W fun e w' => ∃ a c, e = .returned (.slice a (aL D 1).length c) ∧ Rd Tk w' a c (aL D 1) ∧ Below W.heap.size W w') := fun W hW => by
      have := union_call oa Os oc W (hG W hW).1
      rw [hD, hDD, hOn] at this
      exact this
    have hR1 : ∀ W, Hid (Below w2.heap.size w2 W → Calls Try.prog 10 #[.int .i64 1, .slice sa n sc] W fun e w' => ∃ a c, e = .returned (.slice a (aL D 1).length c) ∧ Rd Tk w' a c (aL D 1) ∧ Below W.heap.size W w') := fun W hW => by
      have := ratl_call 1 sa Ss sc W (hG W hW).2.1
      rw [hDD, hn.out] at this
      exact this
    have hMe : ∀ W, Hid (Below w2.heap.size w2 W → Calls Try.prog 11 #[.slice oa n oc] W fun e w' => ∃ a c, e = .returned (.slice a (mL D).length c) ∧ Rd Tk w' a c (mL D) ∧ Below W.heap.size W w') := fun W hW => by
      have := meet_both oa Os oc W (hG W hW).1 hoa.2
      rw [hD, hDD, hOn] at this
      exact this
    have hRm : ∀ W, Hid (Below w2.heap.size w2 W → Calls Try.prog 12 #[.slice sa n sc] W fun e w' => ∃ a c, e = .returned (.slice a (mL D).length c) ∧ Rd Tk w' a c (mL D) ∧ Below W.heap.size W w') := fun W hW => by
      have := rmeet_both sa Ss sc W (hG W hW).2.1
      rw [hDD, hn.out] at this
      exact this
    have hAt : ∀ W, Hid (Below w2.heap.size w2 W → Calls Try.prog 13 #[.int .i64 k, .slice oa n oc] W fun e w' => ∃ a c, e = .returned (.slice a (aL D k).length c) ∧ Rd Tk w' a c (aL D k) ∧ Below W.heap.size W w') := fun W hW => by
      have := atl_call k oa Os oc W (hG W hW).1
      rw [hD, hDD, hOn] at this
      exact this
    have hRk : ∀ W, Hid (Below w2.heap.size w2 W → Calls Try.prog 10 #[.int .i64 k, .slice sa n sc] W fun e w' => ∃ a c, e = .returned (.slice a (aL D k).length c) ∧ Rd Tk w' a c (aL D k) ∧ Below W.heap.size W w') := fun W hW => by
      have := ratl_call k sa Ss sc W (hG W hW).2.1
      rw [hDD, hn.out] at this
      exact this
    have hMi : ∀ W, Hid (Below w2.heap.size w2 W → Calls Try.prog 14 #[.slice ba bl.length bc, .slice da dl.length dc] W fun e w' => ∃ a c, e = .returned (.slice a Lm.length c) ∧ Rd Tk w' a c Lm ∧ Below W.heap.size W w') := fun W hW => by
      have := minus_call ba bl bc da dl dc W (hG W hW).2.2.1 (hG W hW).2.2.2.1
      rw [hLm] at this
      exact this
    have hRi2 : ∀ W, Hid (Below w2.heap.size w2 W → Calls Try.prog 15 #[.slice xa bl.length xc, .slice ya dl.length yc] W fun e w' => ∃ a c, e = .returned (.slice a Lm.length c) ∧ Rd Tk w' a c Lm ∧ Below W.heap.size W w') := fun W hW => by
      have := rminus_call xa bl xc ya dl yc W (hG W hW).2.2.2.2.1 (hG W hW).2.2.2.2.2.1 (by omega) (by omega)
      rw [hLm] at this
      exact this
    have hUc : Hid (∀ W, Below w2.heap.size w2 W → UnC Tk sp W oa ha sa Os Ss) := fun W hW => (hG W hW).2.2.2.2.2.2
    have hFr : Hid (∀ W, Below w2.heap.size w2 W → Calls Try.prog 16 #[.slice xa bl.length xc] W fun e w' => e = .returned (.bool true) ∧ Below W.heap.size W w') := fun W hW => fresh_any xa bl xc W (hG W hW).2.2.2.2.1 hxl
    have HB2 : Hid (Below w2.heap.size w2 w2) := Below.refl _ _
    have HBw : Hid (Below w.heap.size w w2) := hsz2
    have hLs : Hid (lsts Os = lsts Ss ∧ Os.length = n) := ⟨hD, hOn⟩
    generalize decide (Inc bl) = bI at *
    have hbb : (bI != bI) = false := by cases bI <;> rfl
    have hcA : Hid (∀ h : 0 < n, ∃ b off b' off', sa = some ⟨b, off, none⟩ ∧ w2.cell? ⟨b, off, none⟩ = some (.slice xa bl.length xc) ∧ oa = some ⟨b', off', none⟩ ∧ w2.cell? ⟨b', off', none⟩ = some (.slice ba bl.length bc)) := fun h => by
      obtain ⟨b, off, e1, e2⟩ := getD0 (hG w2 (Below.refl _ _)).2.1.1 0 (by rw [hn.out]; exact h)
      obtain ⟨b', off', e3, e4⟩ := getD0 (hG w2 (Below.refl _ _)).1.1 0 (by rw [hOn]; exact h)
      rw [hAA.out.1] at e2
      rw [hB0] at e4
      exact ⟨b, off, b', off', e1, e2, e3, e4⟩
    have hcB : Hid (∀ h : 1 < n, ∃ b off b' off', sa = some ⟨b, off, none⟩ ∧ w2.cell? ⟨b, off + 1, none⟩ = some (.slice ya dl.length yc) ∧ oa = some ⟨b', off', none⟩ ∧ w2.cell? ⟨b', off' + 1, none⟩ = some (.slice da dl.length dc)) := fun h => by
      obtain ⟨b, off, e1, e2⟩ := getD0 (hG w2 (Below.refl _ _)).2.1.1 1 (by rw [hn.out]; exact h)
      obtain ⟨b', off', e3, e4⟩ := getD0 (hG w2 (Below.refl _ _)).1.1 1 (by rw [hOn]; exact h)
      rw [hAA.out.2] at e2
      rw [hB1] at e4
      exact ⟨b, off, b', off', e1, e2, e3, e4⟩
    have hnA : Hid (¬ 0 < n → (xa, xc, bl) = nil0 ∧ (ba, bc, bl) = nil0) := fun h => by
      have e1 : Ss.getD 0 nil0 = nil0 := by simp [List.getD]; rw [List.getElem?_eq_none (by rw [hn.out]; omega)]; rfl
      have e2 : Os.getD 0 nil0 = nil0 := by simp [List.getD]; rw [List.getElem?_eq_none (by rw [hOn]; omega)]; rfl
      rw [hAA.out.1] at e1
      rw [hB0] at e2
      exact ⟨e1, e2⟩
    have hnB : Hid (¬ 1 < n → (ya, yc, dl) = nil0 ∧ (da, dc, dl) = nil0) := fun h => by
      have e1 : Ss.getD 1 nil0 = nil0 := by simp [List.getD]; rw [List.getElem?_eq_none (by rw [hn.out]; omega)]; rfl
      have e2 : Os.getD 1 nil0 = nil0 := by simp [List.getD]; rw [List.getElem?_eq_none (by rw [hOn]; omega)]; rfl
      rw [hAA.out.2] at e1
      rw [hB1] at e2
      exact ⟨e1, e2⟩
    clear i1 i2 i3 i4 i5 i6 oh o1 gh b2 hD hsz2 hB0 hB1 hxl hyl hoa hha hOl hG hOn hDD hLa hLm ht hLL hAA hsr so soc socm hQ q6 hlt hj
    go_upto_if 46 with (at_builtin; refine Lib.wpList_append_run _ rfl _ _ _ _ rfl _ _ rfl rfl _ _ eh ?_; clear eh)
    go_cut [9, 11] (fun va vc wx => va = .slice xa bl.length xc ∧ vc = .slice ba bl.length bc ∧ w2 = wx)
    case first =>
      by_cases h0 : 0 < n
      · obtain ⟨b, off, b', off', rfl, c1, rfl, c2⟩ := hcA.out h0
        have n0 : (0 : Int) < (n : Int) := by omega
        go_wp2_with fail
        go_meet
        case rel => exact ⟨rfl, rfl, rfl⟩
      · obtain ⟨e1, e2⟩ := hnA.out h0
        injection e1 with e1 e3
        injection e3 with e3 e4
        injection e2 with e2 e5
        injection e5 with e5 e6
        subst e1 e2 e3 e4 e5
        have n0 : ¬ (0 : Int) < (n : Int) := by omega
        go_wp2_with fail
        go_meet
        case rel => exact ⟨rfl, rfl, rfl⟩
    case rest =>
    obtain ⟨rfl, rfl, rfl⟩ := hcut
    clear hcA hnA
    go_upto_if 55 with fail
    go_cut [10, 12] (fun va vc wx => va = .slice ya dl.length yc ∧ vc = .slice da dl.length dc ∧ w2 = wx)
    case first =>
      by_cases h0 : 1 < n
      · obtain ⟨b, off, b', off', rfl, c1, rfl, c2⟩ := hcB.out h0
        have n0 : (1 : Int) < (n : Int) := by omega
        go_wp2_with fail
        go_meet
        case rel => exact ⟨rfl, rfl, rfl⟩
      · obtain ⟨e1, e2⟩ := hnB.out h0
        injection e1 with e1 e3
        injection e3 with e3 e4
        injection e2 with e2 e5
        injection e5 with e5 e6
        subst e1 e2 e3 e4 e5
        have n0 : ¬ (1 : Int) < (n : Int) := by omega
        go_wp2_with fail
        go_meet
        case rel => exact ⟨rfl, rfl, rfl⟩
    case rest =>
    obtain ⟨rfl, rfl, rfl⟩ := hcut
    clear hcB hnB
    go_wp2_with (first
      | (refine (Hid.out HB18 |> fun _ => ?_); go_at_call 4; refine (same_yes Lm Lm a17 a18 c17 c18 w18 (K17.out.below hb18.out) K18.out rfl).mono ?_; rintro e w19 ⟨rfl, hb⟩; have hb19 : Hid (Below w18.heap.size w18 w19) := hb; have HB19 : Hid (Below w2.heap.size w2 w19) := HB18.out.trans (hb19.out.mono HB18.out.size); clear hb)
      | (refine (Hid.out HB17 |> fun _ => ?_); go_at_call 15; refine ((hRi2 w17).out HB17.out).mono ?_; rintro e w18 ⟨a18, c18, rfl, hr, hb⟩; have K18 : Hid (Rd Tk w18 a18 c18 Lm) := hr; clear hr; have hb18 : Hid (Below w17.heap.size w17 w18) := hb; have HB18 : Hid (Below w2.heap.size w2 w18) := HB17.out.trans (hb18.out.mono HB17.out.size); clear hb)
      | (refine (Hid.out HB16 |> fun _ => ?_); go_at_call 14; refine ((hMi w16).out HB16.out).mono ?_; rintro e w17 ⟨a17, c17, rfl, hr, hb⟩; have K17 : Hid (Rd Tk w17 a17 c17 Lm) := hr; clear hr; have hb17 : Hid (Below w16.heap.size w16 w17) := hb; have HB17 : Hid (Below w2.heap.size w2 w17) := HB16.out.trans (hb17.out.mono HB16.out.size); clear hb)
      | (refine (Hid.out HB15 |> fun _ => ?_); go_at_call 4; refine (same_yes (aL D k) (aL D k) a14 a15 c14 c15 w15 (K14.out.below hb15.out) K15.out rfl).mono ?_; rintro e w16 ⟨rfl, hb⟩; have hb16 : Hid (Below w15.heap.size w15 w16) := hb; have HB16 : Hid (Below w2.heap.size w2 w16) := HB15.out.trans (hb16.out.mono HB15.out.size); clear hb)
      | (refine (Hid.out HB14 |> fun _ => ?_); go_at_call 10; refine ((hRk w14).out HB14.out).mono ?_; rintro e w15 ⟨a15, c15, rfl, hr, hb⟩; have K15 : Hid (Rd Tk w15 a15 c15 (aL D k)) := hr; clear hr; have hb15 : Hid (Below w14.heap.size w14 w15) := hb; have HB15 : Hid (Below w2.heap.size w2 w15) := HB14.out.trans (hb15.out.mono HB14.out.size); clear hb)
      | (refine (Hid.out HB13 |> fun _ => ?_); go_at_call 13; refine ((hAt w13).out HB13.out).mono ?_; rintro e w14 ⟨a14, c14, rfl, hr, hb⟩; have K14 : Hid (Rd Tk w14 a14 c14 (aL D k)) := hr; clear hr; have hb14 : Hid (Below w13.heap.size w13 w14) := hb; have HB14 : Hid (Below w2.heap.size w2 w14) := HB13.out.trans (hb14.out.mono HB13.out.size); clear hb)
      | (refine (Hid.out HB12 |> fun _ => ?_); go_at_call 4; refine (same_yes (mL D) (mL D) a11 a12 c11 c12 w12 (K11.out.below hb12.out) K12.out rfl).mono ?_; rintro e w13 ⟨rfl, hb⟩; have hb13 : Hid (Below w12.heap.size w12 w13) := hb; have HB13 : Hid (Below w2.heap.size w2 w13) := HB12.out.trans (hb13.out.mono HB12.out.size); clear hb)
      | (refine (Hid.out HB11 |> fun _ => ?_); go_at_call 12; refine ((hRm w11).out HB11.out).mono ?_; rintro e w12 ⟨a12, c12, rfl, hr, hb⟩; have K12 : Hid (Rd Tk w12 a12 c12 (mL D)) := hr; clear hr; have hb12 : Hid (Below w11.heap.size w11 w12) := hb; have HB12 : Hid (Below w2.heap.size w2 w12) := HB11.out.trans (hb12.out.mono HB11.out.size); clear hb)
      | (refine (Hid.out HB10 |> fun _ => ?_); go_at_call 11; refine ((hMe w10).out HB10.out).mono ?_; rintro e w11 ⟨a11, c11, rfl, hr, hb⟩; have K11 : Hid (Rd Tk w11 a11 c11 (mL D)) := hr; clear hr; have hb11 : Hid (Below w10.heap.size w10 w11) := hb; have HB11 : Hid (Below w2.heap.size w2 w11) := HB10.out.trans (hb11.out.mono HB10.out.size); clear hb)
      | (refine (Hid.out HB9 |> fun _ => ?_); go_at_call 4; refine (same_yes (aL D 1) (aL D 1) a8 a9 c8 c9 w9 (K8.out.below hb9.out) K9.out rfl).mono ?_; rintro e w10 ⟨rfl, hb⟩; have hb10 : Hid (Below w9.heap.size w9 w10) := hb; have HB10 : Hid (Below w2.heap.size w2 w10) := HB9.out.trans (hb10.out.mono HB9.out.size); clear hb)
      | (refine (Hid.out HB8 |> fun _ => ?_); go_at_call 10; refine ((hR1 w8).out HB8.out).mono ?_; rintro e w9 ⟨a9, c9, rfl, hr, hb⟩; have K9 : Hid (Rd Tk w9 a9 c9 (aL D 1)) := hr; clear hr; have hb9 : Hid (Below w8.heap.size w8 w9) := hb; have HB9 : Hid (Below w2.heap.size w2 w9) := HB8.out.trans (hb9.out.mono HB8.out.size); clear hb)
      | (refine (Hid.out HB7 |> fun _ => ?_); go_at_call 9; refine ((hUn w7).out HB7.out).mono ?_; rintro e w8 ⟨a8, c8, rfl, hr, hb⟩; have K8 : Hid (Rd Tk w8 a8 c8 (aL D 1)) := hr; clear hr; have hb8 : Hid (Below w7.heap.size w7 w8) := hb; have HB8 : Hid (Below w2.heap.size w2 w8) := HB7.out.trans (hb8.out.mono HB7.out.size); clear hb)
      | (refine (Hid.out HB6 |> fun _ => ?_); go_at_call 8; refine ((hRr w6).out HB6.out).mono ?_; rintro e w7 ⟨rfl, hb⟩; have hb7 : Hid (Below w6.heap.size w6 w7) := hb; have HB7 : Hid (Below w2.heap.size w2 w7) := HB6.out.trans (hb7.out.mono HB6.out.size); clear hb)
      | (refine (Hid.out HB5 |> fun _ => ?_); go_at_call 7; refine ((hRi w5).out HB5.out).mono ?_; rintro e w6 ⟨rfl, hb⟩; have hb6 : Hid (Below w5.heap.size w5 w6) := hb; have HB6 : Hid (Below w2.heap.size w2 w6) := HB5.out.trans (hb6.out.mono HB5.out.size); clear hb)
      | (refine (Hid.out HB4 |> fun _ => ?_); go_at_call 4; refine (same_yes La La a3 a4 c3 c4 w4 (K3.out.below hb4.out) K4.out rfl).mono ?_; rintro e w5 ⟨rfl, hb⟩; have hb5 : Hid (Below w4.heap.size w4 w5) := hb; have HB5 : Hid (Below w2.heap.size w2 w5) := HB4.out.trans (hb5.out.mono HB4.out.size); clear hb)
      | (refine (Hid.out HB3 |> fun _ => ?_); go_at_call 6; refine ((hSo w3).out HB3.out).mono ?_; rintro e w4 ⟨a4, c4, rfl, hr, hb⟩; have K4 : Hid (Rd Tk w4 a4 c4 La) := hr; clear hr; have hb4 : Hid (Below w3.heap.size w3 w4) := hb; have HB4 : Hid (Below w2.heap.size w2 w4) := HB3.out.trans (hb4.out.mono HB3.out.size); clear hb)
      | (refine (Hid.out HB2 |> fun _ => ?_); go_at_call 5; refine ((hOf w2).out HB2.out).mono ?_; rintro e w3 ⟨a3, c3, rfl, hr, hb⟩; have K3 : Hid (Rd Tk w3 a3 c3 La) := hr; clear hr; have hb3 : Hid (Below w2.heap.size w2 w3) := hb; have HB3 : Hid (Below w2.heap.size w2 w3) := HB2.out.trans (hb3.out.mono HB2.out.size); clear hb))
    have HB19' : Hid (Below w2.heap.size w2 w19) := HB19
    clear HB3 HB4 HB5 HB6 HB7 HB8 HB9 HB10 HB11 HB12 HB13 HB14 HB15 HB16 HB17 HB18 HB19 hb3 hb4 hb5 hb6 hb7 hb8 hb9 hb10 hb11 hb12 hb13 hb14 hb15 hb16 hb17 hb18 hb19 K3 K4 K8 K9 K11 K12 K14 K15 K17 K18 hOf hSo hRi hRr hUn hR1 hMe hRm hAt hRk hMi hRi2 hbb
    go_loopw [13] (fun ivv wr => ∃ i : Nat, ivv = .int .i64 (i : Int) ∧ i ≤ n ∧ Hid (Below w2.heap.size w2 wr)) (fun ivv _ => n - (intOf ivv).toNat)
    case atStart => exact ⟨0, rfl, Nat.zero_le _, HB19'⟩
    case round =>
      obtain ⟨i, rfl, hi, HB⟩ := hrel
      have i0 : (0 : Int) ≤ (i : Int) := Int.natCast_nonneg _
      by_cases hlt : i < n
      · have i1 : (i : Int) < (n : Int) := Int.ofNat_lt.2 hlt
        have hiS : i < Ss.length := by rw [hn.out]; exact hlt
        have hiO : i < Os.length := by rw [hLs.out.2]; exact hlt
        obtain ⟨h1, h2, h3, h4, h5, ⟨B, h6⟩, h7⟩ := hUc.out wr HB.out
        obtain ⟨ob, oo, rfl, c1⟩ := h1 i hiO
        obtain ⟨hb, ho, rfl, c2⟩ := h2 i hiO
        obtain ⟨lb, lo, rfl, c3⟩ := h3 i hiS
        have hl2 : Os[i].2.2 = Ss[i].2.2 := by
          have e1 : (lsts Os)[i]'(by unfold lsts; simpa using hiO) = Os[i].2.2 := by unfold lsts; simp
          have e2 : (lsts Ss)[i]'(by unfold lsts; simpa using hiS) = Ss[i].2.2 := by unfold lsts; simp
          rw [← e1, ← e2]
          simp only [h4]
        have hll : Ss[i].2.2.length ≤ 4194304 := by
          have := tot_take (lsts Ss) (List.mem_map_of_mem (f := fun h : Hd => h.2.2) (List.getElem_mem hiS))
          omega
        obtain ⟨og, eog, hown⟩ := h6 _ (List.getElem_mem hiO)
        have hcap : Os[i].2.2.length + 1 ≤ Os[i].2.1 := by
          rcases ownI_form hown with ⟨e, _⟩ | ⟨g, cap, e, e2, _⟩
          · cases e
          · injection e with _ _ e; simp at e2; omega
        have hmark : ∀ W, Below wr.heap.size wr W → W.cell? ⟨og, Os[i].2.2.length, none⟩ = some (.string { data := #[115, 112, 97, 114, 101] }) := fun W hW => by
          have hr := (ownI_row (ownI_below hown hW)).1 Os[i].2.2.length (by simp)
          obtain ⟨b', o', e, q⟩ := hr
          injection e with e
          injection e with e1 e2
          subst e1 e2
          rw [Nat.zero_add] at q
          rw [q, ← hspH.out]
          simp
        have hrd : ∀ W, Below wr.heap.size wr W → Rd Tk W Os[i].1 Os[i].2.1 Os[i].2.2 := fun W hW => Spd.rd (sp := sp) ⟨og, eog, ownI_below hown hW⟩ (by rw [hl2]; omega)
        have hrs : ∀ W, Below wr.heap.size wr W → Rd Tk W Ss[i].1 Ss[i].2.1 Ss[i].2.2 := fun W hW => (h5 _ (List.getElem_mem hiS)).below hW
        have hcl : ∀ W, Below wr.heap.size wr W → W.cell? ⟨ob, oo + i, none⟩ = some (hv Os[i]) ∧ W.cell? ⟨lb, lo + i, none⟩ = some (hv Ss[i]) ∧ W.cell? ⟨og, Os[i].2.2.length, none⟩ = some (.string { data := #[115, 112, 97, 114, 101] }) := fun W hW => by
          refine ⟨?_, ?_, hmark W hW⟩
          · rw [hW.cell (World.block_lt_of_cell? wr _ c1)]; exact c1
          · rw [hW.cell (World.block_lt_of_cell? wr _ c3)]; exact c3
        have hlt' : Hid (i < n) := hlt
        generalize hx1 : Os[i] = o at *
        generalize hx2 : Ss[i] = s at *
        obtain ⟨qa, qc, ql⟩ := o
        obtain ⟨pa, pc, pl⟩ := s
        dsimp only at eog hl2 hcap hll hrd hrs hown
        subst eog hl2
        simp only [hv] at c1 c2 c3 hcl
        have hs1 : ∀ W, (Instr.sliceAt 23 (.slice (some ⟨og, 0, none⟩) ql.length qc) none (some (.int .i64 ((ql.length : Int) + 1))) none).run Try.prog W = .ok (.slice (some ⟨og, 0, none⟩) (ql.length + 1) qc) W := fun W => half_l _ _ qc (ql.length + 1) _ (by simp) hcap W
        have hs2 : ∀ W, (Instr.sliceAt 23 (.slice (some ⟨og, 0, none⟩) (ql.length + 1) qc) none (some (.int .i64 (ql.length : Int))) none).run Try.prog W = .ok (.slice (some ⟨og, 0, none⟩) ql.length qc) W := fun W => half_l _ _ qc ql.length _ rfl (by omega) W
        have hsm : ∀ W, Hid (Below wr.heap.size wr W → Calls Try.prog 4 #[.slice (some ⟨og, 0, none⟩) ql.length qc, .slice pa ql.length pc] W fun e w' => e = .returned (.bool true) ∧ Below W.heap.size W w') := fun W hW => same_yes ql ql (some ⟨og, 0, none⟩) pa qc pc W (hrd W hW) (hrs W hW) rfl
        have hcl' : Hid (∀ W, Below wr.heap.size wr W → W.cell? ⟨ob, oo + i, none⟩ = some (.slice (some ⟨og, 0, none⟩) ql.length qc) ∧ W.cell? ⟨lb, lo + i, none⟩ = some (.slice pa ql.length pc) ∧ W.cell? ⟨og, ql.length, none⟩ = some (.string { data := #[115, 112, 97, 114, 101] })) := hcl
        have xb : (ql.length : Int) ≤ 4194304 := by omega
        have x0 : (0 : Int) ≤ (ql.length : Int) := Int.natCast_nonneg _
        have x1 : (ql.length : Int) < (ql.length : Int) + 1 := by omega
        generalize ql.length = m at *
        clear h1 h2 h3 h4 h5 h6 h7 hown hcap hmark hrd hrs hcl hx1 hx2 hi hlt hiS hiO hll
        have HD : Hid (Below wr.heap.size wr wr.drew) := below_drewN _ _ 1
        have cd := hcl'.out wr.drew HD.out
        go_wp2_with fail
        go_region_held3 (fun w' => w'.cell? ⟨ob, oo + i, none⟩ = some (.slice (some ⟨og, 0, none⟩) m qc) ∧ w'.cell? ⟨lb, lo + i, none⟩ = some (.slice pa m pc) ∧ w'.cell? ⟨og, m, none⟩ = some (.string { data := #[115, 112, 97, 114, 101] }))
          (first | exact cc6 | exact cc5 | exact cd)
          (first
            | (refine (Hid.out H5 |> fun _ => ?_); go_at_call 4; refine ((hsm w5').out H5.out).mono ?_; rintro e w6' ⟨rfl, hb6⟩; have H6 : Hid (Below wr.heap.size wr w6') := H5.out.trans (hb6.mono H5.out.size); have cc6 := hcl'.out w6' H6.out; clear hb6)
            | (go_at_call 4; refine ((hsm wr.drew).out HD.out).mono ?_; rintro e w5' ⟨rfl, hb5⟩; have H5 : Hid (Below wr.heap.size wr w5') := HD.out.trans (hb5.mono HD.out.size); have cc5 := hcl'.out w5' H5.out; clear hb5))
        clear cd cc5 cc6
        have hfin : Hid (Below w2.heap.size w2 w6') := HB.out.trans (H6.out.mono HB.out.size)
        go_wp2_with fail
        go_roundw
        case rel => exact ⟨i + 1, by simp, hlt'.out, hfin⟩
        case measure => have := hlt'.out; simp [intOf]; omega
      · have e : n = i := by omega
        subst e
        have i1 : ¬ (n : Int) < (n : Int) := by omega
        clear hi hlt
        go_wp2_with (go_at_call 16; refine (hFr.out _ HB.out).mono ?_; rintro e w20 ⟨rfl, hb20⟩)
        go_ret
        exact ⟨rfl, HBw.out.trans ((HB.out.trans (hb20.mono HB.out.size)).mono HBw.out.size)⟩
end Pt
end Go.Proofs.Ythpfnajgbocpnaa
