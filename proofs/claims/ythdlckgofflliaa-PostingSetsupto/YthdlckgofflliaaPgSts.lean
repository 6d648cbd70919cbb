import Derived.Test.YthdlckgofflliaaPgRMt
import Derived.Test.YthdlckgofflliaaPgCtC
namespace Go.Proofs.Ythdlckgofflliaa
open Go.RowKit Go.Sort Go.Lib
open PgMath (Inc setOf cnt)
open PgHpM (Hd)
open PgCnM (occ)
set_option linter.unusedVariables false
set_option maxRecDepth 100000

theorem ratl_call (kk : Int) (sa : Option Addr) (Ss : List Hd) (sc : Nat) (W : World) (h : LL W sa Ss) :
    Calls Try.prog 28 #[.int .i64 kk, .slice sa Ss.length sc] W fun e w' => ∃ a c, e = .returned (.slice a (aL (lsts Ss) kk).length c) ∧ Rd w' a c (aL (lsts Ss) kk) ∧ Below W.heap.size W w' := by
  have hb := h.2.2
  refine (rAtLeast_any kk sa Ss sc W h.1 h.2.1 (by omega)).mono ?_
  rintro e w' ⟨v, M, rfl, hO, hM, hb'⟩
  have e := atl_uniq hM
  subst e
  obtain ⟨a, n, c, rfl⟩ := ownI_slice hO
  obtain ⟨_, rfl⟩ := ownI_row hO
  have := aL_len (lsts Ss) kk
  exact ⟨a, c, rfl, Rd.of_own hO (by omega), hb'⟩
/-- What stands in all of the lists; of none nothing. -/
def mL (D : List (List Int)) : List Int := if D = [] then [] else aL D (D.length : Int)
theorem mL_nil : mL [] = [] := by simp [mL]
theorem mL_cons (h : Hd) (T : List Hd) : mL (lsts (h :: T)) = aL (lsts (h :: T)) ((h :: T).length : Nat) := by
  have e : (lsts (h :: T)).length = (h :: T).length := by simp [lsts]
  unfold mL
  rw [if_neg (by simp [lsts]), e]
theorem meet_both (sa : Option Addr) (Ss : List Hd) (sc : Nat) (W : World) (hl : LL W sa Ss) (hc : Ss.length ≤ sc) :
    Calls Try.prog 24 #[.slice sa Ss.length sc] W fun e w' => ∃ a c, e = .returned (.slice a (mL (lsts Ss)).length c) ∧ Rd w' a c (mL (lsts Ss)) ∧ Below W.heap.size W w' := by
  cases Ss with
  | nil =>
    refine Calls.mono (meet_none sa sc W) ?_
    rintro e w' ⟨rfl, rfl⟩
    have e : mL (lsts []) = [] := mL_nil
    rw [e]
    exact ⟨none, 0, rfl, rd_nil0 _, Below.refl _ _⟩
  | cons h T =>
    rw [mL_cons]
    exact meet_call sa h T sc W hl hc
theorem rmeet_both (sa : Option Addr) (Ss : List Hd) (sc : Nat) (W : World) (hl : LL W sa Ss) :
    Calls Try.prog 29 #[.slice sa Ss.length sc] W fun e w' => ∃ a c, e = .returned (.slice a (mL (lsts Ss)).length c) ∧ Rd w' a c (mL (lsts Ss)) ∧ Below W.heap.size W w' := by
  cases Ss with
  | nil =>
    have e0 : mL (lsts []) = [] := mL_nil
    rw [e0]
    have hR : Hid (Rd W none 0 []) := rd_nil0 W
    clear hl e0
    go_enter Try.func29, Try.ntmps29
    go_wp2_with fail
    go_ret
    exact ⟨none, 0, rfl, hR.out, Below.refl _ _⟩
  | cons h T =>
    rw [mL_cons]
    have hA := ratl_call ((h :: T).length : Nat) sa (h :: T) sc W hl
    have n0 : (((h :: T).length : Int) == 0) = false := by simp only [List.length_cons]; simp; omega
    have nb : ((h :: T).length : Int) ≤ 1048576 := by have := hl.2.2; omega
    generalize aL (lsts (h :: T)) ((h :: T).length : Nat) = M at *
    generalize (h :: T).length = n at *
    clear hl
    go_enter Try.func29, Try.ntmps29
    go_wp2_with (go_at_call 28; refine hA.mono ?_; rintro e w1 ⟨a1, c1, rfl, hr1, hb1⟩)
    go_ret
    exact ⟨a1, c1, rfl, hr1, hb1⟩
theorem minus_call (a : Option Addr) (l : List Int) (c : Nat) (b : Option Addr) (k : List Int) (d : Nat) (W : World) (h1 : Rd W a c l) (h2 : Rd W b d k) :
    Calls Try.prog 25 #[.slice a l.length c, .slice b k.length d] W fun e w' => ∃ a c, e = .returned (.slice a (mns (setOf l) (setOf k)).length c) ∧ Rd w' a c (mns (setOf l) (setOf k)) ∧ Below W.heap.size W w' := by
  have e : sft (setOf k) false (setOf l) = mns (setOf l) (setOf k) := by
    unfold sft mns
    apply List.filter_congr
    intro x _
    by_cases h : x ∈ setOf k
    · simp [h]
    · simp [h]
  refine (minus_any a l c b k d W h1 h2).mono ?_
  rintro e' w' ⟨v, rfl, hO, hb'⟩
  rw [e] at hO
  obtain ⟨a', n, c', rfl⟩ := ownI_slice hO
  obtain ⟨_, rfl⟩ := ownI_row hO
  have h3 : (mns (setOf l) (setOf k)).length ≤ (setOf l).length := List.length_filter_le _ _
  have h4 := PgMath.setOf_len l
  have h5 := h1.2.2.2
  exact ⟨a', c', rfl, Rd.of_own hO (by omega), hb'⟩
theorem rminus_call (a : Option Addr) (l : List Int) (c : Nat) (b : Option Addr) (k : List Int) (d : Nat) (W : World) (h1 : Rd W a c l) (h2 : Rd W b d k) (n1 : l.length ≤ 4194304) (n2 : k.length ≤ 4194304) :
    Calls Try.prog 30 #[.slice a l.length c, .slice b k.length d] W fun e w' => ∃ a c, e = .returned (.slice a (mns (setOf l) (setOf k)).length c) ∧ Rd w' a c (mns (setOf l) (setOf k)) ∧ Below W.heap.size W w' := by
  refine (rMinus_any a l c b k d W h1 h2 n1 n2).mono ?_
  rintro e' w' ⟨v, rfl, hO, hb'⟩
  obtain ⟨a', n, c', rfl⟩ := ownI_slice hO
  obtain ⟨_, rfl⟩ := ownI_row hO
  have h3 : (mns (setOf l) (setOf k)).length ≤ (setOf l).length := List.length_filter_le _ _
  have h4 := PgMath.setOf_len l
  have h5 := h1.2.2.2
  exact ⟨a', c', rfl, Rd.of_own hO (by omega), hb'⟩
theorem of_call (f : Nat) (a : Option Addr) (l : List Int) (c : Nat) (W : World) (hl : l.length * 8 ≤ 140737488355328) (h : Calls Try.prog f #[.slice a l.length c] W fun e w' => ∃ v, e = .returned v ∧ OwnI w' W.heap.size v (setOf l) ∧ Below W.heap.size W w') :
    Calls Try.prog f #[.slice a l.length c] W fun e w' => ∃ a c, e = .returned (.slice a (setOf l).length c) ∧ Rd w' a c (setOf l) ∧ Below W.heap.size W w' := by
  refine h.mono ?_
  rintro e' w' ⟨v, rfl, hO, hb'⟩
  obtain ⟨a', n, c', rfl⟩ := ownI_slice hO
  obtain ⟨_, rfl⟩ := ownI_row hO
  have h4 := PgMath.setOf_len l
  exact ⟨a', c', rfl, Rd.of_own hO (by omega), hb'⟩

set_option maxRecDepth 1000000 in
set_option maxHeartbeats 8000000 in
theorem sets_walk (sa : Option Addr) (sc : Nat) (Ss : List Hd) (k : Int) (w : World) (h1 : SRow w sa Ss) (h2 : ∀ x ∈ Ss, Rd w x.1 x.2.1 x.2.2) (hc : Ss.length ≤ sc) (hm : sc ≤ maxLen) (ht : tot (lsts Ss) + Ss.length ≤ 1048576) (hk : -9223372036854775808 ≤ k ∧ k ≤ 9223372036854775807) :
    Calls Try.prog 5 #[.slice sa Ss.length sc, .int .i64 k] w fun e w' => e = .returned (.bool true) ∧ Below w.heap.size w w' := by
  obtain ⟨n, hn0⟩ : ∃ n, Ss.length = n := ⟨_, rfl⟩
  have hn : Hid (Ss.length = n) := hn0
  have hLL : Hid (LL w sa Ss) := ⟨h1, h2, ht⟩
  have hTw : Hid (Calls Try.prog 32 #[.slice sa n sc] w fun e w' => e = .returned (.tuple #[hv (Ss.getD 0 nil0), hv (Ss.getD 1 nil0)]) ∧ w = w') := by
    have := two_any sa Ss sc w h1 (by omega)
    rw [hn0] at this
    exact this
  have hSp : Hid (Calls Try.prog 19 #[.slice sa n sc] w fun e w' => ∃ a c Os, e = .returned (.slice a Os.length c) ∧ SpI w Ss (.slice a Os.length c) Os w' ∧ Os.length = Ss.length) := by
    have := spared_any sa Ss sc w h1 h2 (by omega)
    rw [hn0] at this
    rw [hn0]
    exact this
  have hHe : Hid (∀ w1 oa oc Os, SpI w Ss (.slice oa Os.length oc) Os w1 ∧ Os.length = Ss.length → Calls Try.prog 20 #[.slice oa n oc] w1 fun e w' => ∃ ha hc, e = .returned (.slice ha n hc) ∧ OwnL w' w1.heap.size (.slice ha n hc) Os ∧ Below w1.heap.size w1 w') := fun w1 oa oc Os q => by
    obtain ⟨a', c', e, r1, _⟩ := ownL_slice q.1.1
    injection e with e1 _ e2
    subst e1 e2
    have := headers_any oa Os oc w1 r1 (by rw [q.2]; omega)
    rw [q.2, hn0] at this
    exact this
  rw [hn0]
  clear h1 h2 hn0
  obtain ⟨A0, hA0⟩ : ∃ A0, Ss.getD 0 nil0 = A0 := ⟨_, rfl⟩
  obtain ⟨A1, hA1⟩ : ∃ A1, Ss.getD 1 nil0 = A1 := ⟨_, rfl⟩
  rw [hA0, hA1] at hTw
  obtain ⟨xa, xc, xl⟩ := A0
  obtain ⟨ya, yc, yl⟩ := A1
  dsimp only [hv] at hTw
  have hAA : Hid (Ss.getD 0 nil0 = (xa, xc, xl) ∧ Ss.getD 1 nil0 = (ya, yc, yl)) := ⟨hA0, hA1⟩
  clear hA0 hA1
  go_enter Try.func5, Try.ntmps5
  go_wp2_with (first
    | (refine (Hid.out K2 |> fun _ => ?_); go_at_call 32; refine (Hid.out (p := _) ?_))
    | (refine (Hid.out K1 |> fun _ => ?_); go_at_call 20; refine (hHe.out w1 oa oc Os K1.out).mono ?_; rintro e w2 ⟨ha, hc, rfl, hI, hb⟩; have K2 : Hid (OwnL w2 w1.heap.size (.slice ha n hc) Os ∧ Below w1.heap.size w1 w2) := ⟨hI, hb⟩; clear hI hb)
    | (go_at_call 19; refine hSp.out.mono ?_; rintro e w1 ⟨oa, oc, Os, rfl, hI, hl⟩; have K1 : Hid (SpI w Ss (.slice oa Os.length oc) Os w1 ∧ Os.length = Ss.length) := ⟨hI, hl⟩; rw [hl, hn.out]; clear hI hl)
    | (go_at_call 32; refine hTw.out.mono ?_; rintro e w' ⟨rfl, rfl⟩))
  unfold Hid
  obtain ⟨⟨i1, i2, i3, i4, i5⟩, i6⟩ := K1.out
  obtain ⟨o1, b2⟩ := K2.out
  have hD : lsts Os = lsts Ss := by rw [i3, i6, List.take_length]
  have hsz2 : Below w.heap.size w w2 := i5.trans (b2.mono i5.size)
  obtain ⟨B0, hB0⟩ : ∃ B0, Os.getD 0 nil0 = B0 := ⟨_, rfl⟩
  obtain ⟨B1, hB1⟩ : ∃ B1, Os.getD 1 nil0 = B1 := ⟨_, rfl⟩
  have hb0 : B0.2.2 = xl := by rw [← hB0, lsts_getD, hD, ← lsts_getD, hAA.out.1]
  have hb1 : B1.2.2 = yl := by rw [← hB1, lsts_getD, hD, ← lsts_getD, hAA.out.2]
  obtain ⟨ba, bc, bl⟩ := B0
  obtain ⟨da, dc, dl⟩ := B1
  dsimp only at hb0 hb1
  subst hb0 hb1
  have hxl : bl.length ≤ 1048576 := by
    have h1 : (Ss.getD 0 nil0).2.2.length ≤ tot (lsts Ss) := by
      by_cases e : 0 < Ss.length
      · have e1 : Ss.getD 0 nil0 = Ss[0] := by simp [List.getD, e]
        rw [e1]; exact tot_take _ (List.mem_map_of_mem (f := fun h : Hd => h.2.2) (List.getElem_mem e))
      · have e1 : Ss.getD 0 nil0 = nil0 := by simp [List.getD, e]
        rw [e1]; simp
    rw [hAA.out.1] at h1
    dsimp only at h1
    omega
  have hyl : dl.length ≤ 1048576 := by
    have h1 : (Ss.getD 1 nil0).2.2.length ≤ tot (lsts Ss) := by
      by_cases e : 1 < Ss.length
      · have e1 : Ss.getD 1 nil0 = Ss[1] := by simp [List.getD, e]
        rw [e1]; exact tot_take _ (List.mem_map_of_mem (f := fun h : Hd => h.2.2) (List.getElem_mem e))
      · have e1 : Ss.getD 1 nil0 = nil0 := by simp [List.getD, e]
        rw [e1]; simp
    rw [hAA.out.2] at h1
    dsimp only at h1
    omega
  have hoa : SRow w1 oa Os ∧ Os.length ≤ oc := by
    obtain ⟨a', c', e, r1, r2, _⟩ := ownL_slice i1
    injection e with e1 _ e2
    subst e1 e2
    exact ⟨r1, r2⟩
  have hha : SRow w2 ha Os := by
    obtain ⟨a', c', e, r1, r2, _⟩ := ownL_slice o1
    injection e with e1 _ e2
    subst e1
    exact r1
  have hOl : ∀ x ∈ Os, x.2.2.length ≤ 1099511627776 := fun x hx => by
    have h1 := tot_take (lsts Os) (List.mem_map_of_mem (f := fun h : Hd => h.2.2) hx)
    rw [hD] at h1
    omega
  have hG : ∀ W, Below w2.heap.size w2 W → LL W oa Os ∧ LL W sa Ss ∧ Rd W ba bc bl ∧ Rd W da dc dl ∧ Rd W xa xc bl ∧ Rd W ya yc dl ∧ UnC W oa ha sa Os Ss := fun W hW => by
    have hW1 : Below w1.heap.size w1 W := b2.trans (hW.mono b2.size)
    have hW0 : Below w.heap.size w W := hsz2.trans (hW.mono hsz2.size)
    have l1 : LL W oa Os := ⟨hoa.1.below hW1, fun x hx => ((i4 x hx).below hW1).rd (hOl x hx), by rw [hD, i6]; exact ht⟩
    have l2 : LL W sa Ss := hLL.out.below hW0
    have g0 := rd_getD l1.2.1 0
    have g1 := rd_getD l1.2.1 1
    have g2 := rd_getD l2.2.1 0
    have g3 := rd_getD l2.2.1 1
    rw [hB0] at g0
    rw [hB1] at g1
    rw [hAA.out.1] at g2
    rw [hAA.out.2] at g3
    exact ⟨l1, l2, g0, g1, g2, g3, l1.1, hha.below hW, l2.1, hD, l2.2.1, ⟨w.heap.size, fun x hx => (i4 x hx).below hW1⟩, by omega⟩
  have hTw2 : Hid (Calls Try.prog 32 #[.slice oa n oc] w2 fun e w' => e = .returned (.tuple #[.slice ba bl.length bc, .slice da dl.length dc]) ∧ w2 = w') := by
    have := two_any oa Os oc w2 (hoa.1.below b2) (by rw [i6]; omega)
    rw [hB0, hB1, i6, hn.out] at this
    exact this
  have hOn : Os.length = n := i6.trans hn.out
  obtain ⟨D, hDD⟩ : ∃ D, lsts Ss = D := ⟨_, rfl⟩
  obtain ⟨La, hLa⟩ : ∃ La, setOf bl = La := ⟨_, rfl⟩
  obtain ⟨Lm, hLm⟩ : ∃ Lm, mns (setOf bl) (setOf dl) = Lm := ⟨_, rfl⟩
  have hOf : ∀ W, Hid (Below w2.heap.size w2 W → Calls Try.prog 22 #[.slice ba bl.length bc] W fun e w' => ∃ a c, e = .returned (.slice a La.length c) ∧ Rd w' a c La ∧ Below W.heap.size W w') := fun W hW => by
    have g := (hG W hW).2.2.1
    have := of_call _ ba bl bc W g.2.2.2 (of_any ba bl bc W g.1 g.2.2.2)
    rw [hLa] at this
    exact this
  have hSo : ∀ W, Hid (Below w2.heap.size w2 W → Calls Try.prog 21 #[.slice xa bl.length xc] W fun e w' => ∃ a c, e = .returned (.slice a La.length c) ∧ Rd w' a c La ∧ Below W.heap.size W w') := fun W hW => by
    have g := (hG W hW).2.2.2.2.1
    have := of_call _ xa bl xc W g.2.2.2 (sorted_any bl.length xa bl xc W (Nat.le_refl _) g.1 g.2.1 (by omega))
    rw [hLa] at this
    exact this
  have hRi : ∀ W, Hid (Below w2.heap.size w2 W → Calls Try.prog 33 #[.slice ba bl.length bc] W fun e w' => e = .returned (.bool (decide (Inc bl))) ∧ Below W.heap.size W w') := fun W hW => by
    have g := (hG W hW).2.2.1
    refine Calls.mono (rising_any bl ba bc W (by omega) g.1) ?_
    rintro e w' ⟨rfl, q, rfl⟩
    exact ⟨rfl, below_drewN _ _ _⟩
  have hRr : ∀ W, Hid (Below w2.heap.size w2 W → Calls Try.prog 34 #[.slice xa bl.length xc] W fun e w' => e = .returned (.bool (decide (Inc bl))) ∧ Below W.heap.size W w') := fun W hW => rRising_any xa bl xc W (hG W hW).2.2.2.2.1 (by omega)
  have hUn : ∀ W, Hid (Below w2.heap.size w2 W → Calls Try.prog 23 #[.slice oa n oc] W fun e w' => ∃ a c, e = .returned (.slice a (aL D 1).length c) ∧ Rd w' a c (aL D 1) ∧ Below W.heap.size W w') := fun W hW => by
    have := union_call oa Os oc W (hG W hW).1
    rw [hD, hDD, hOn] at this
    exact this
  have hR1 : ∀ W, Hid (Below w2.heap.size w2 W → Calls Try.prog 28 #[.int .i64 1, .slice sa n sc] W fun e w' => ∃ a c, e = .returned (.slice a (aL D 1).length c) ∧ Rd w' a c (aL D 1) ∧ Below W.heap.size W w') := fun W hW => by
    have := ratl_call 1 sa Ss sc W (hG W hW).2.1
    rw [hDD, hn.out] at this
    exact this
  have hMe : ∀ W, Hid (Below w2.heap.size w2 W → Calls Try.prog 24 #[.slice oa n oc] W fun e w' => ∃ a c, e = .returned (.slice a (mL D).length c) ∧ Rd w' a c (mL D) ∧ Below W.heap.size W w') := fun W hW => by
    have := meet_both oa Os oc W (hG W hW).1 hoa.2
    rw [hD, hDD, hOn] at this
    exact this
  have hRm : ∀ W, Hid (Below w2.heap.size w2 W → Calls Try.prog 29 #[.slice sa n sc] W fun e w' => ∃ a c, e = .returned (.slice a (mL D).length c) ∧ Rd w' a c (mL D) ∧ Below W.heap.size W w') := fun W hW => by
    have := rmeet_both sa Ss sc W (hG W hW).2.1
    rw [hDD, hn.out] at this
    exact this
  have hAt : ∀ W, Hid (Below w2.heap.size w2 W → Calls Try.prog 26 #[.int .i64 k, .slice oa n oc] W fun e w' => ∃ a c, e = .returned (.slice a (aL D k).length c) ∧ Rd w' a c (aL D k) ∧ Below W.heap.size W w') := fun W hW => by
    have := atl_call k oa Os oc W (hG W hW).1
    rw [hD, hDD, hOn] at this
    exact this
  have hRk : ∀ W, Hid (Below w2.heap.size w2 W → Calls Try.prog 28 #[.int .i64 k, .slice sa n sc] W fun e w' => ∃ a c, e = .returned (.slice a (aL D k).length c) ∧ Rd w' a c (aL D k) ∧ Below W.heap.size W w') := fun W hW => by
    have := ratl_call k sa Ss sc W (hG W hW).2.1
    rw [hDD, hn.out] at this
    exact this
  have hMi : ∀ W, Hid (Below w2.heap.size w2 W → Calls Try.prog 25 #[.slice ba bl.length bc, .slice da dl.length dc] W fun e w' => ∃ a c, e = .returned (.slice a Lm.length c) ∧ Rd w' a c Lm ∧ Below W.heap.size W w') := fun W hW => by
    have := minus_call ba bl bc da dl dc W (hG W hW).2.2.1 (hG W hW).2.2.2.1
    rw [hLm] at this
    exact this
  have hRi2 : ∀ W, Hid (Below w2.heap.size w2 W → Calls Try.prog 30 #[.slice xa bl.length xc, .slice ya dl.length yc] W fun e w' => ∃ a c, e = .returned (.slice a Lm.length c) ∧ Rd w' a c Lm ∧ Below W.heap.size W w') := fun W hW => by
    have := rminus_call xa bl xc ya dl yc W (hG W hW).2.2.2.2.1 (hG W hW).2.2.2.2.2.1 (by omega) (by omega)
    rw [hLm] at this
    exact this
  have hUc : ∀ W, Hid (Below w2.heap.size w2 W → Calls Try.prog 31 #[.slice oa n oc, .slice ha n hc, .slice sa n sc] W fun e w' => e = .returned (.bool true) ∧ Below W.heap.size W w') := fun W hW => by
    have := unchanged_any oa ha sa oc hc sc Os Ss W (hG W hW).2.2.2.2.2.2
    rw [hOn, hn.out] at this
    exact this
  have HB2 : Hid (Below w2.heap.size w2 w2) := Below.refl _ _
  have HBw : Hid (Below w.heap.size w w2) := hsz2
  generalize decide (Inc bl) = bI at *
  have hbb : (bI != bI) = false := by cases bI <;> rfl
  clear i1 i2 i3 i4 i5 i6 o1 b2 hD hsz2 hB0 hB1 hxl hyl hoa hha hOl hG hOn hDD hLa hLm hSp hHe hTw ht hm hk K1 K2 hLL hAA
  go_wp2_with (first
    | (refine (Hid.out HB19 |> fun _ => ?_); go_at_call 31; refine ((hUc w19).out HB19.out).mono ?_; rintro e w20 ⟨rfl, hb⟩; have hb20 : Hid (Below w19.heap.size w19 w20) := hb; have HB20 : Hid (Below w2.heap.size w2 w20) := HB19.out.trans (hb20.out.mono HB19.out.size); clear hb)
    | (refine (Hid.out HB18 |> fun _ => ?_); go_at_call 27; refine (same_yes Lm Lm a17 a18 c17 c18 w18 (K17.out.below hb18.out) K18.out rfl).mono ?_; rintro e w19 ⟨rfl, hb⟩; have hb19 : Hid (Below w18.heap.size w18 w19) := hb; have HB19 : Hid (Below w2.heap.size w2 w19) := HB18.out.trans (hb19.out.mono HB18.out.size); clear hb)
    | (refine (Hid.out HB17 |> fun _ => ?_); go_at_call 30; refine ((hRi2 w17).out HB17.out).mono ?_; rintro e w18 ⟨a18, c18, rfl, hr, hb⟩; have K18 : Hid (Rd w18 a18 c18 Lm) := hr; clear hr; have hb18 : Hid (Below w17.heap.size w17 w18) := hb; have HB18 : Hid (Below w2.heap.size w2 w18) := HB17.out.trans (hb18.out.mono HB17.out.size); clear hb)
    | (refine (Hid.out HB16 |> fun _ => ?_); go_at_call 25; refine ((hMi w16).out HB16.out).mono ?_; rintro e w17 ⟨a17, c17, rfl, hr, hb⟩; have K17 : Hid (Rd w17 a17 c17 Lm) := hr; clear hr; have hb17 : Hid (Below w16.heap.size w16 w17) := hb; have HB17 : Hid (Below w2.heap.size w2 w17) := HB16.out.trans (hb17.out.mono HB16.out.size); clear hb)
    | (refine (Hid.out HB15 |> fun _ => ?_); go_at_call 27; refine (same_yes (aL D k) (aL D k) a14 a15 c14 c15 w15 (K14.out.below hb15.out) K15.out rfl).mono ?_; rintro e w16 ⟨rfl, hb⟩; have hb16 : Hid (Below w15.heap.size w15 w16) := hb; have HB16 : Hid (Below w2.heap.size w2 w16) := HB15.out.trans (hb16.out.mono HB15.out.size); clear hb)
    | (refine (Hid.out HB14 |> fun _ => ?_); go_at_call 28; refine ((hRk w14).out HB14.out).mono ?_; rintro e w15 ⟨a15, c15, rfl, hr, hb⟩; have K15 : Hid (Rd w15 a15 c15 (aL D k)) := hr; clear hr; have hb15 : Hid (Below w14.heap.size w14 w15) := hb; have HB15 : Hid (Below w2.heap.size w2 w15) := HB14.out.trans (hb15.out.mono HB14.out.size); clear hb)
    | (refine (Hid.out HB13 |> fun _ => ?_); go_at_call 26; refine ((hAt w13).out HB13.out).mono ?_; rintro e w14 ⟨a14, c14, rfl, hr, hb⟩; have K14 : Hid (Rd w14 a14 c14 (aL D k)) := hr; clear hr; have hb14 : Hid (Below w13.heap.size w13 w14) := hb; have HB14 : Hid (Below w2.heap.size w2 w14) := HB13.out.trans (hb14.out.mono HB13.out.size); clear hb)
    | (refine (Hid.out HB12 |> fun _ => ?_); go_at_call 27; refine (same_yes (mL D) (mL D) a11 a12 c11 c12 w12 (K11.out.below hb12.out) K12.out rfl).mono ?_; rintro e w13 ⟨rfl, hb⟩; have hb13 : Hid (Below w12.heap.size w12 w13) := hb; have HB13 : Hid (Below w2.heap.size w2 w13) := HB12.out.trans (hb13.out.mono HB12.out.size); clear hb)
    | (refine (Hid.out HB11 |> fun _ => ?_); go_at_call 29; refine ((hRm w11).out HB11.out).mono ?_; rintro e w12 ⟨a12, c12, rfl, hr, hb⟩; have K12 : Hid (Rd w12 a12 c12 (mL D)) := hr; clear hr; have hb12 : Hid (Below w11.heap.size w11 w12) := hb; have HB12 : Hid (Below w2.heap.size w2 w12) := HB11.out.trans (hb12.out.mono HB11.out.size); clear hb)
    | (refine (Hid.out HB10 |> fun _ => ?_); go_at_call 24; refine ((hMe w10).out HB10.out).mono ?_; rintro e w11 ⟨a11, c11, rfl, hr, hb⟩; have K11 : Hid (Rd w11 a11 c11 (mL D)) := hr; clear hr; have hb11 : Hid (Below w10.heap.size w10 w11) := hb; have HB11 : Hid (Below w2.heap.size w2 w11) := HB10.out.trans (hb11.out.mono HB10.out.size); clear hb)
    | (refine (Hid.out HB9 |> fun _ => ?_); go_at_call 27; refine (same_yes (aL D 1) (aL D 1) a8 a9 c8 c9 w9 (K8.out.below hb9.out) K9.out rfl).mono ?_; rintro e w10 ⟨rfl, hb⟩; have hb10 : Hid (Below w9.heap.size w9 w10) := hb; have HB10 : Hid (Below w2.heap.size w2 w10) := HB9.out.trans (hb10.out.mono HB9.out.size); clear hb)
    | (refine (Hid.out HB8 |> fun _ => ?_); go_at_call 28; refine ((hR1 w8).out HB8.out).mono ?_; rintro e w9 ⟨a9, c9, rfl, hr, hb⟩; have K9 : Hid (Rd w9 a9 c9 (aL D 1)) := hr; clear hr; have hb9 : Hid (Below w8.heap.size w8 w9) := hb; have HB9 : Hid (Below w2.heap.size w2 w9) := HB8.out.trans (hb9.out.mono HB8.out.size); clear hb)
    | (refine (Hid.out HB7 |> fun _ => ?_); go_at_call 23; refine ((hUn w7).out HB7.out).mono ?_; rintro e w8 ⟨a8, c8, rfl, hr, hb⟩; have K8 : Hid (Rd w8 a8 c8 (aL D 1)) := hr; clear hr; have hb8 : Hid (Below w7.heap.size w7 w8) := hb; have HB8 : Hid (Below w2.heap.size w2 w8) := HB7.out.trans (hb8.out.mono HB7.out.size); clear hb)
    | (refine (Hid.out HB6 |> fun _ => ?_); go_at_call 34; refine ((hRr w6).out HB6.out).mono ?_; rintro e w7 ⟨rfl, hb⟩; have hb7 : Hid (Below w6.heap.size w6 w7) := hb; have HB7 : Hid (Below w2.heap.size w2 w7) := HB6.out.trans (hb7.out.mono HB6.out.size); clear hb)
    | (refine (Hid.out HB5 |> fun _ => ?_); go_at_call 33; refine ((hRi w5).out HB5.out).mono ?_; rintro e w6 ⟨rfl, hb⟩; have hb6 : Hid (Below w5.heap.size w5 w6) := hb; have HB6 : Hid (Below w2.heap.size w2 w6) := HB5.out.trans (hb6.out.mono HB5.out.size); clear hb)
    | (refine (Hid.out HB4 |> fun _ => ?_); go_at_call 27; refine (same_yes La La a3 a4 c3 c4 w4 (K3.out.below hb4.out) K4.out rfl).mono ?_; rintro e w5 ⟨rfl, hb⟩; have hb5 : Hid (Below w4.heap.size w4 w5) := hb; have HB5 : Hid (Below w2.heap.size w2 w5) := HB4.out.trans (hb5.out.mono HB4.out.size); clear hb)
    | (refine (Hid.out HB3 |> fun _ => ?_); go_at_call 21; refine ((hSo w3).out HB3.out).mono ?_; rintro e w4 ⟨a4, c4, rfl, hr, hb⟩; have K4 : Hid (Rd w4 a4 c4 La) := hr; clear hr; have hb4 : Hid (Below w3.heap.size w3 w4) := hb; have HB4 : Hid (Below w2.heap.size w2 w4) := HB3.out.trans (hb4.out.mono HB3.out.size); clear hb)
    | (refine (Hid.out HB2 |> fun _ => ?_); go_at_call 22; refine ((hOf w2).out HB2.out).mono ?_; rintro e w3 ⟨a3, c3, rfl, hr, hb⟩; have K3 : Hid (Rd w3 a3 c3 La) := hr; clear hr; have hb3 : Hid (Below w2.heap.size w2 w3) := hb; have HB3 : Hid (Below w2.heap.size w2 w3) := HB2.out.trans (hb3.out.mono HB2.out.size); clear hb)
    | (go_at_call 32; refine hTw2.out.mono ?_; rintro e w' ⟨rfl, rfl⟩))
  go_ret
  exact ⟨rfl, HBw.out.trans (HB20.out.mono HBw.out.size)⟩
end Go.Proofs.Ythdlckgofflliaa
