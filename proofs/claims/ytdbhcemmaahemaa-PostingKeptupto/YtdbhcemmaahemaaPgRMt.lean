import Derived.Test.YtdbhcemmaahemaaPgUnc
namespace Go.Proofs.Ytdbhcemmaahemaa
open Go.RowKit Go.Sort Go.Lib
open PgMath (Inc setOf cnt)
open PgHpM (Hd)
open PgCnM (occ)
set_option linter.unusedVariables false
set_option maxRecDepth 100000

def mns (X Y : List Int) : List Int := X.filter fun x => decide (x ∉ Y)
abbrev nil0 : Hd := (none, 0, [])
theorem rd_nil0 (W : World) : Rd W none 0 [] := ⟨NRow.nil _ _, Nat.le_refl _, by unfold maxLen; omega, by decide⟩
theorem rd_getD {W : World} {Ss : List Hd} (h : ∀ x ∈ Ss, Rd W x.1 x.2.1 x.2.2) (i : Nat) : Rd W (Ss.getD i nil0).1 (Ss.getD i nil0).2.1 (Ss.getD i nil0).2.2 := by
  by_cases e : i < Ss.length
  · have e1 : Ss.getD i nil0 = Ss[i] := by simp [List.getD, e]
    rw [e1]
    exact h _ (List.getElem_mem e)
  · have e1 : Ss.getD i nil0 = nil0 := by simp [List.getD, e]
    rw [e1]
    exact rd_nil0 W
theorem lsts_getD (Ss : List Hd) (i : Nat) : (Ss.getD i nil0).2.2 = (lsts Ss).getD i [] := by
  unfold lsts
  by_cases e : i < Ss.length
  · simp [List.getD, e]
  · simp [List.getD, e]
set_option maxHeartbeats 1000000 in
theorem rMinus_any (a : Option Addr) (l : List Int) (c : Nat) (b : Option Addr) (k : List Int) (d : Nat) (w : World) (h1 : Rd w a c l) (h2 : Rd w b d k) (n1 : l.length ≤ 4194304) (n2 : k.length ≤ 4194304) :
    Calls Try.prog 29 #[.slice a l.length c, .slice b k.length d] w fun e w' => ∃ v, e = .returned v ∧ OwnI w' w.heap.size v (mns (setOf l) (setOf k)) ∧ Below w.heap.size w w' := by
  have hS1 := sorted_any l.length a l c w (Nat.le_refl _) h1.1 h1.2.1 (by omega)
  have hS2 : ∀ W, Hid (Below w.heap.size w W → Calls Try.prog 20 #[.slice b k.length d] W fun e w' => ∃ v, e = .returned v ∧ OwnI w' W.heap.size v (setOf k) ∧ Below W.heap.size W w') := fun W hW => sorted_any k.length b k d W (Nat.le_refl _) (h2.below hW).1 h2.2.1 (by omega)
  have hl1 := PgMath.setOf_len l
  have hl2 := PgMath.setOf_len k
  have hi2 := PgMath.setOf_inc k
  obtain ⟨X, hX⟩ : ∃ X, setOf l = X := ⟨_, rfl⟩
  obtain ⟨Y, hY⟩ : ∃ Y, setOf k = Y := ⟨_, rfl⟩
  simp only [hX, hY] at *
  have xb : (X.length : Int) ≤ 4194304 := by omega
  have yb : Hid (Y.length ≤ 4194304 ∧ Inc Y) := ⟨by omega, hi2⟩
  generalize l.length = n0 at *
  generalize k.length = k0 at *
  clear h1 h2 n1 n2 hl1 hl2 hi2 hX hY
  go_enter Try.func29, Try.ntmps29
  go_wp2_with (first
    | (refine (Hid.out HB1 |> fun _ => ?_); go_at_call 20; refine ((hS2 w1).out HB1.out).mono ?_; rintro e w2 ⟨v2, rfl, o2, b2⟩; obtain ⟨a2, m2, c2, rfl⟩ := ownI_slice o2; obtain ⟨_, rfl⟩ := ownI_row o2)
    | (go_at_call 20; refine hS1.mono ?_; rintro e w1 ⟨v1, rfl, o1, b1⟩; obtain ⟨a1, m1, c1, rfl⟩ := ownI_slice o1; obtain ⟨_, rfl⟩ := ownI_row o1; have HB1 : Hid (Below w.heap.size w w1) := b1))
  have hF : Hid (NRow w2 a1 X ∧ NRow w2 a2 Y ∧ Below w.heap.size w w2) := ⟨(ownI_row (ownI_below o1 b2)).1, (ownI_row o2).1, HB1.out.trans (b2.mono HB1.out.size)⟩
  obtain ⟨xn, hxn⟩ : ∃ xn, X.length = xn := ⟨_, rfl⟩
  simp only [hxn] at xb ⊢
  have hxn' : Hid (X.length = xn) := hxn
  clear o1 b1 o2 b2 hS1 hS2 hxn
  go_loopw [7, 8] (fun vo ivv wq => ∃ (i : Nat) (ra : Option Addr) (rn rc : Nat), ivv = .int .i64 (i : Int) ∧ vo = .slice ra rn rc ∧ i ≤ xn ∧ Hid (OwnI wq w2.heap.size (.slice ra rn rc) ((X.take i).filter fun x => decide (x ∉ Y)) ∧ Below w2.heap.size w2 wq)) (fun _ ivv _ => xn - (intOf ivv).toNat)
  case atStart => exact ⟨0, none, 0, 0, rfl, rfl, Nat.zero_le _, ownI_nil _ _, Below.refl _ _⟩
  case round =>
    obtain ⟨i, ra, rn, rc, rfl, rfl, hi, hR⟩ := hrel
    have i0 : (0 : Int) ≤ (i : Int) := Int.natCast_nonneg _
    by_cases hilt : i < xn
    · have i1 : (i : Int) < (xn : Int) := Int.ofNat_lt.2 hilt
      have hiX : i < X.length := by rw [hxn'.out]; exact hilt
      obtain ⟨xb', xo, rfl, cx⟩ := (hF.out.1.below hR.out.2) i hiX
      have htk : Hid (((X.take (i + 1)).filter fun x => decide (x ∉ Y)) = ((X.take i).filter fun x => decide (x ∉ Y)) ++ (if X[i] ∉ Y then [X[i]] else [])) := by
        unfold Hid
        rw [List.take_succ_eq_append_getElem hiX, List.filter_append]
        congr 1
        by_cases e : X[i] ∈ Y
        · simp [e]
        · simp [e]
      have hfl : Hid (((X.take i).filter fun x => decide (x ∉ Y)).length ≤ 4194304) := by
        have h1 : ((X.take i).filter fun x => decide (x ∉ Y)).length ≤ (X.take i).length := List.length_filter_le _ _
        rw [List.length_take] at h1
        unfold Hid
        omega
      have hIn := in_any a2 Y c2 X[i] wr (hF.out.2.1.below hR.out.2) yb.out.2 (by have := yb.out.1; omega)
      have hilt' : Hid (i < xn) := hilt
      generalize X[i] = y at *
      clear hi hilt hiX
      by_cases hyY : y ∈ Y
      · have hfin : Hid (OwnI wr w2.heap.size (.slice ra rn rc) ((X.take (i + 1)).filter fun x => decide (x ∉ Y)) ∧ Below w2.heap.size w2 wr) := ⟨by rw [htk.out, if_neg (by simp [hyY]), List.append_nil]; exact hR.out.1, hR.out.2⟩
        rw [decide_eq_true hyY] at hIn
        clear hyY htk hR
        go_wp2_with (go_at_call 45; refine hIn.mono ?_; rintro e w' ⟨rfl, rfl⟩)
        go_roundw
        case rel => exact ⟨i + 1, _, _, _, by simp, rfl, hilt'.out, hfin⟩
        case measure => have := hilt'.out; simp [intOf]; omega
      · obtain ⟨v5, w5, e5, o5, b5⟩ := appendI_row (wr.alloc (.cells #[.int .i64 y] 2)) w2.heap.size (.slice ra rn rc) _ [y] (some ⟨wr.heap.size, 0, none⟩) 1 1 (World.ownsRow.alloc hR.out.1 _) (rd_lit wr [y] 2 (by simp)).1 rfl (by have := hR.out.2.size; simp; omega) (by have := hfl.out; simp only [List.length_cons, List.length_nil]; omega)
        obtain ⟨a5, n5, c5, rfl⟩ := ownI_slice o5
        have hfin : Hid (OwnI w5 w2.heap.size (.slice a5 n5 c5) ((X.take (i + 1)).filter fun x => decide (x ∉ Y)) ∧ Below w2.heap.size w2 w5) := ⟨by rw [htk.out, if_pos hyY]; exact o5, hR.out.2.trans (((Below.refl _ _).alloc hR.out.2.size _).trans b5)⟩
        rw [decide_eq_false hyY] at hIn
        clear hyY htk hR o5 b5
        go_wp2_with (first
          | (go_at_call 45; refine hIn.mono ?_; rintro e w' ⟨rfl, rfl⟩)
          | (at_builtin; refine Lib.wpList_append_run _ rfl _ _ _ _ rfl _ _ rfl rfl _ _ e5 ?_; clear e5))
        go_roundw
        case rel => exact ⟨i + 1, _, _, _, by simp, rfl, hilt'.out, hfin⟩
        case measure => have := hilt'.out; simp [intOf]; omega
    · have ei : i = xn := by omega
      subst ei
      have i1 : ¬ (i : Int) < (i : Int) := by omega
      have hE : Hid (OwnI wr w.heap.size (.slice ra rn rc) (mns X Y) ∧ Below w.heap.size w wr) := by
        obtain ⟨h1, h2⟩ := hR.out
        rw [← hxn'.out, List.take_length] at h1
        exact ⟨ownI_base h1 hF.out.2.2.size, hF.out.2.2.trans (h2.mono hF.out.2.2.size)⟩
      clear hR hi hilt
      go_wp2_with fail
      go_ret
      exact ⟨_, rfl, hE.out⟩
end Go.Proofs.Ytdbhcemmaahemaa
