import Derived.Test.YthpfnajgbocpnaaPtRAl
namespace Go.Proofs.Ythpfnajgbocpnaa
namespace Pt
open Go.RowKit Go.Sort Go.Lib
open PtMath (Inc setOf cnt)
open PtHpM (Hd)
open PtCnM (occ)
set_option linter.unusedVariables false
set_option maxRecDepth 100000
open PtT (Rk TB en)
variable {Tk : PtT.Rk}

def mns (X Y : List Nat) : List Nat := X.filter fun x => decide (x ∉ Y)
abbrev nil0 : Hd := (none, 0, [])
theorem rd_nil0 (W : World) : Rd Tk W none 0 ([] : List Nat) := ⟨NRow.nil _ _, Nat.le_refl _, by unfold maxLen; omega, by decide⟩
theorem rd_getD {W : World} {Ss : List Hd} (h : ∀ x ∈ Ss, Rd Tk W x.1 x.2.1 x.2.2) (i : Nat) : Rd Tk W (Ss.getD i nil0).1 (Ss.getD i nil0).2.1 (Ss.getD i nil0).2.2 := by
  by_cases e : i < Ss.length
  · have e1 : Ss.getD i nil0 = Ss[i] := by simp [List.getD, e]
    rw [e1]
    exact h _ (List.getElem_mem e)
  · have e1 : Ss.getD i nil0 = nil0 := by simp [List.getD, e]
    rw [e1]
    exact rd_nil0 W
theorem lsts_getD (Ss : List Hd) (i : Nat) : (Ss.getD i nil0).2.2 = (lsts Ss).getD i [] := by
  unfold lsts
  by_cases e : i < Ss.length
  · simp [List.getD, e]
  · simp [List.getD, e]
set_option maxHeartbeats 1000000 in
theorem rMinus_any (a : Option Addr) (l : List Nat) (c : Nat) (b : Option Addr) (k : List Nat) (d : Nat) (w : World) (h1 : Rd Tk w a c l) (h2 : Rd Tk w b d k) (n1 : l.length ≤ 4194304) (n2 : k.length ≤ 4194304) :
    Calls Try.prog 15 #[.slice a l.length c, .slice b k.length d] w fun e w' => ∃ v, e = .returned v ∧ OwnI Tk w' w.heap.size v (mns (setOf l) (setOf k)) ∧ Below w.heap.size w w' := by
  have hS1 := sorted_any l.length a l c w (Nat.le_refl _) h1.1 h1.2.1 (by omega)
  have hS2 : ∀ W, Hid (Below w.heap.size w W → Calls Try.prog 6 #[.slice b k.length d] W fun e w' => ∃ v, e = .returned v ∧ OwnI Tk w' W.heap.size v (setOf k) ∧ Below W.heap.size W w') := fun W hW => sorted_any k.length b k d W (Nat.le_refl _) (h2.below hW).1 h2.2.1 (by omega)
  have hl1 := PtMath.setOf_len l
  have hl2 := PtMath.setOf_len k
  have hi2 := PtMath.setOf_inc k
  obtain ⟨X, hX⟩ : ∃ X, setOf l = X := ⟨_, rfl⟩
  obtain ⟨Y, hY⟩ : ∃ Y, setOf k = Y := ⟨_, rfl⟩
  simp only [hX, hY] at *
  have xb : (X.length : Int) ≤ 4194304 := by omega
  have yb : Hid (Y.length ≤ 4194304 ∧ Inc Y) := ⟨by omega, hi2⟩
  generalize l.length = n0 at *
  generalize k.length = k0 at *
  clear h1 h2 n1 n2 hl1 hl2 hi2 hX hY
  go_enter Try.func15, Try.ntmps15
  go_wp2_with (first
    | (refine (Hid.out HB1 |> fun _ => ?_); go_at_call 6; refine ((hS2 w1).out HB1.out).mono ?_; rintro e w2 ⟨v2, rfl, o2, b2⟩; obtain ⟨a2, m2, c2, rfl⟩ := ownI_slice o2; obtain ⟨_, rfl⟩ := ownI_row o2)
    | (go_at_call 6; refine hS1.mono ?_; rintro e w1 ⟨v1, rfl, o1, b1⟩; obtain ⟨a1, m1, c1, rfl⟩ := ownI_slice o1; obtain ⟨_, rfl⟩ := ownI_row o1; have HB1 : Hid (Below w.heap.size w w1) := b1))
  have hF : Hid (NRow Tk w2 a1 X ∧ NRow Tk w2 a2 Y ∧ Below w.heap.size w w2) := ⟨(ownI_row (ownI_below o1 b2)).1, (ownI_row o2).1, HB1.out.trans (b2.mono HB1.out.size)⟩
  obtain ⟨xn, hxn⟩ : ∃ xn, X.length = xn := ⟨_, rfl⟩
  simp only [hxn] at xb ⊢
  have hxn' : Hid (X.length = xn) := hxn
  clear o1 b1 o2 b2 hS1 hS2 hxn
  go_loopw [7, 8] (fun vo ivv wq => ∃ (i : Nat) (ra : Option Addr) (rn rc : Nat), ivv = .int .i64 (i : Int) ∧ vo = .slice ra rn rc ∧ i ≤ xn ∧ Hid (OwnI Tk wq w2.heap.size (.slice ra rn rc) ((X.take i).filter fun x => decide (x ∉ Y)) ∧ Below w2.heap.size w2 wq)) (fun _ ivv _ => xn - (intOf ivv).toNat)
  case atStart => exact ⟨0, none, 0, 0, rfl, rfl, Nat.zero_le _, ownI_nil _ _, Below.refl _ _⟩
  case round =>
    obtain ⟨i, ra, rn, rc, rfl, rfl, hi, hR⟩ := hrel
    have i0 : (0 : Int) ≤ (i : Int) := Int.natCast_nonneg _
    by_cases hilt : i < xn
    · have i1 : (i : Int) < (xn : Int) := Int.ofNat_lt.2 hilt
      have hiX : i < X.length := by rw [hxn'.out]; exact hilt
      obtain ⟨xb', xo, rfl, cx⟩ := (hF.out.1.below hR.out.2) i hiX
      have htk : Hid (((X.take (i + 1)).filter fun x => decide (x ∉ Y)) = ((X.take i).filter fun x => decide (x ∉ Y)) ++ (if X[i] ∉ Y then [X[i]] else [])) := by
        unfold Hid
        rw [List.take_succ_eq_append_getElem hiX, List.filter_append]
        congr 1
        by_cases e : X[i] ∈ Y
        · simp [e]
        · simp [e]
      have hfl : Hid (((X.take i).filter fun x => decide (x ∉ Y)).length ≤ 4194304) := by
        have h1 : ((X.take i).filter fun x => decide (x ∉ Y)).length ≤ (X.take i).length := List.length_filter_le _ _
        rw [List.length_take] at h1
        unfold Hid
        omega
      have hIn := in_any a2 Y c2 X[i] wr (hF.out.2.1.below hR.out.2) yb.out.2 (by have := yb.out.1; omega)
      have hilt' : Hid (i < xn) := hilt
      generalize X[i] = y at *
      clear hi hilt hiX
      by_cases hyY : y ∈ Y
      · have hfin : Hid (OwnI Tk wr w2.heap.size (.slice ra rn rc) ((X.take (i + 1)).filter fun x => decide (x ∉ Y)) ∧ Below w2.heap.size w2 wr) := ⟨by rw [htk.out, if_neg (by simp [hyY]), List.append_nil]; exact hR.out.1, hR.out.2⟩
        rw [decide_eq_true hyY] at hIn
        clear hyY htk hR
        go_wp2_with (go_at_call 20; refine hIn.mono ?_; rintro e w' ⟨rfl, rfl⟩)
        go_roundw
        case rel => exact ⟨i + 1, _, _, _, by simp, rfl, hilt'.out, hfin⟩
        case measure => have := hilt'.out; simp [intOf]; omega
      · obtain ⟨v5, w5, e5, o5, b5⟩ := appendI_row (wr.alloc (.cells #[.string (TB Tk y)] 9)) w2.heap.size (.slice ra rn rc) _ [y] (some ⟨wr.heap.size, 0, none⟩) 1 1 (World.ownsRow.alloc hR.out.1 _) (rd_lit wr [y] 9 (by simp)).1 rfl (by have := hR.out.2.size; simp; omega) (by have := hfl.out; simp only [List.length_cons, List.length_nil]; omega)
        obtain ⟨a5, n5, c5, rfl⟩ := ownI_slice o5
        have hfin : Hid (OwnI Tk w5 w2.heap.size (.slice a5 n5 c5) ((X.take (i + 1)).filter fun x => decide (x ∉ Y)) ∧ Below w2.heap.size w2 w5) := ⟨by rw [htk.out, if_pos hyY]; exact o5, hR.out.2.trans (((Below.refl _ _).alloc hR.out.2.size _).trans b5)⟩
        rw [decide_eq_false hyY] at hIn
        clear hyY htk hR o5 b5
        go_wp2_with (first
          | (go_at_call 20; refine hIn.mono ?_; rintro e w' ⟨rfl, rfl⟩)
          | (at_builtin; refine Lib.wpList_append_run _ rfl _ _ _ _ rfl _ _ rfl rfl _ _ e5 ?_; clear e5))
        go_roundw
        case rel => exact ⟨i + 1, _, _, _, by simp, rfl, hilt'.out, hfin⟩
        case measure => have := hilt'.out; simp [intOf]; omega
    · have ei : i = xn := by omega
      subst ei
      have i1 : ¬ (i : Int) < (i : Int) := by omega
      have hE : Hid (OwnI Tk wr w.heap.size (.slice ra rn rc) (mns X Y) ∧ Below w.heap.size w wr) := by
        obtain ⟨h1, h2⟩ := hR.out
        rw [← hxn'.out, List.take_length] at h1
        exact ⟨ownI_base h1 hF.out.2.2.size, hF.out.2.2.trans (h2.mono hF.out.2.2.size)⟩
      clear hR hi hilt
      go_wp2_with fail
      go_ret
      exact ⟨_, rfl, hE.out⟩
set_option maxHeartbeats 1000000 in
theorem rRising_any (a : Option Addr) (l : List Nat) (c : Nat) (w : World) (h1 : Rd Tk w a c l) (n1 : l.length ≤ 4194304) :
    Calls Try.prog 8 #[.slice a l.length c] w fun e w' => e = .returned (.bool (decide (Inc l))) ∧ Below w.heap.size w w' := by
  have hS1 := sorted_any l.length a l c w (Nat.le_refl _) h1.1 h1.2.1 (by omega)
  have hInc : Hid (Inc l ↔ setOf l = l) := ⟨fun h => PtMath.setOf_self h, fun h => by have := PtMath.setOf_inc l; rw [h] at this; exact this⟩
  obtain ⟨X, hX⟩ : ∃ X, setOf l = X := ⟨_, rfl⟩
  rw [hX] at hS1
  have hXl : Hid (Inc l ↔ X = l) := by rw [← hX]; exact hInc
  have lb : (l.length : Int) ≤ 4194304 := by omega
  by_cases hlen : X.length = l.length
  · have q0 : ((X.length : Int) != (l.length : Int)) = false := by rw [hlen]; simp
    have hlen' : Hid (X.length = l.length) := hlen
    have hr : Hid (Rd Tk w a c l) := h1
    clear h1 n1 hInc hX hlen
    go_enter Try.func8, Try.ntmps8
    go_wp2_with (go_at_call 6; refine hS1.mono ?_; rintro e w1 ⟨v1, rfl, o1, b1⟩; obtain ⟨a1, m1, c1, rfl⟩ := ownI_slice o1; obtain ⟨_, rfl⟩ := ownI_row o1)
    have hF : Hid (NRow Tk w1 a1 X ∧ NRow Tk w1 a l ∧ Below w.heap.size w w1) := ⟨(ownI_row o1).1, (hr.out.below b1).1, b1⟩
    clear o1 b1 hS1
    go_loopw [4] (fun ivv wr => ∃ i q : Nat, i ≤ l.length ∧ ivv = .int .i64 (i : Int) ∧ Hid (X.take i = l.take i) ∧ Hid (wr = w1.drewN q)) (fun ivv _ => l.length - (intOf ivv).toNat)
    case atStart => exact ⟨0, 0, Nat.zero_le _, rfl, by unfold Hid; simp, rfl⟩
    case round =>
      obtain ⟨i, q, hi, rfl, htk, hw⟩ := hrel
      have hlen := hlen'.out
      by_cases hlt : i < l.length
      · have hlk : i < X.length := by omega
        obtain ⟨b1, o1, rfl, c2⟩ := hF.out.1 i hlk
        obtain ⟨b2, o2, rfl, c3⟩ := hF.out.2.1 i hlt
        have hE : ∀ a, wr.cell? a = w1.cell? a := fun a => by rw [hw.out]; rfl
        rw [← hE] at c2 c3
        have i0 : (0 : Int) ≤ (i : Int) := Int.natCast_nonneg _
        have i1 : (i : Int) < (l.length : Int) := Int.ofNat_lt.2 hlt
        have i2 : (i : Int) < (X.length : Int) := Int.ofNat_lt.2 hlk
        by_cases hx : X[i] = l[i]
        · have htk' : Hid (X.take (i + 1) = l.take (i + 1)) := takeI htk.out hlk hlt hx
          rw [← hx] at c3
          clear hx
          generalize TB Tk X[i] = Z at *
          have hlt' : Hid (i < l.length) := hlt
          clear hE hlen hlt hlk hi
          go_wp2_with fail
          go_quiet (fail)
          go_wp2_with fail
          go_roundw
          case rel => exact ⟨i + 1, _, hlt'.out, by simp, htk', by unfold Hid; rw [hw.out, World.drewN_drewN]⟩
          case measure => have := hlt'.out; simp [intOf]; omega
        · have hne : ((TB Tk X[i]).toList == (TB Tk l[i]).toList) = false := PtT.beq_ne Tk hx
          have hno : Hid (¬ Inc l) := fun h => hx (by have e := hXl.out.1 h; simp only [e])
          clear hx
          generalize TB Tk X[i] = Z at *
          generalize TB Tk l[i] = Z2 at *
          clear hE hlen hlt hlk hi
          go_wp2_with fail
          go_quiet (fail)
          go_wp2_with fail
          go_ret
          exact ⟨by rw [decide_eq_false hno.out]; rfl, by rw [hw.out, World.drewN_drewN]; exact hF.out.2.2.trans (below_drewN _ _ _)⟩
      · have e : i = l.length := by omega
        have hyes : Hid (Inc l) := by
          have h := htk.out
          rw [e, List.take_length, ← hlen, List.take_length] at h
          exact hXl.out.2 h
        subst e
        have i1 : ¬ (l.length : Int) < (l.length : Int) := by omega
        clear hlen hlt hi
        go_wp2_with fail
        go_ret
        exact ⟨by rw [decide_eq_true hyes.out]; rfl, by rw [hw.out]; exact hF.out.2.2.trans (below_drewN _ _ _)⟩
  · have hno : Hid (¬ Inc l) := fun h => hlen (by rw [hXl.out.1 h])
    have q0 : ((X.length : Int) != (l.length : Int)) = true := by simp; omega
    clear h1 n1 hInc hX hlen
    go_enter Try.func8, Try.ntmps8
    go_wp2_with (go_at_call 6; refine hS1.mono ?_; rintro e w1 ⟨v1, rfl, o1, b1⟩; obtain ⟨a1, m1, c1, rfl⟩ := ownI_slice o1; obtain ⟨_, rfl⟩ := ownI_row o1)
    go_ret
    exact ⟨by rw [decide_eq_false hno.out]; rfl, b1⟩
end Pt
end Go.Proofs.Ythpfnajgbocpnaa
