import Derived.Test.YtpddmknlkhhjmaaFlEq
namespace Go.Proofs.Ytpddmknlkhhjmaa
open Go.RowKit
set_option linter.unusedVariables false

set_option maxRecDepth 100000 in
set_option maxHeartbeats 4000000 in
theorem equalFunc_loop (xs ys : List Nod) (a b : Option Addr) (c d : Nat) (w : World) (hn : xs.length ≤ 1099511627745) (hlen : xs.length = ys.length) (hlx : ∀ x ∈ xs, x.l.length ≤ 8796093021952) (hly : ∀ x ∈ ys, x.l.length ≤ 8796093021952) (h1 : FRow w a xs) (h2 : FRow w b ys) :
    Calls Try.prog 7 #[.slice a xs.length c, .slice b ys.length d, .func (.func 8) #[] #[]] w fun e w' => e = .returned (.bool (fb xs ys)) ∧ Below w.heap.size w w' := by
  have H : Hid (FRow w a xs ∧ FRow w b ys ∧ (∀ x ∈ xs, x.l.length ≤ 8796093021952) ∧ (∀ x ∈ ys, x.l.length ≤ 8796093021952) ∧ xs.length = ys.length) := ⟨h1, h2, hlx, hly, hlen⟩
  have hb0 : ((xs.length : Int) != (ys.length : Int)) = false := by rw [hlen]; simp
  clear h1 h2 hlx hly hlen
  go_enter Try.func7, Try.ntmps7
  go_wp2_with fail
  go_loopw [17] (fun iv wr => ∃ i : Nat, i ≤ xs.length ∧ iv = .int .i64 (i : Int) ∧ Hid ((xs.take i).map np = (ys.take i).map np ∧ Below w.heap.size w wr)) (fun iv _ => xs.length - (intOf iv).toNat)
  case atStart => exact ⟨0, Nat.zero_le _, rfl, by simp, Below.refl _ _⟩
  case round =>
    obtain ⟨i, hi, rfl, hI⟩ := hrel
    clear hb0
    by_cases hlt : i < xs.length
    · have hlk : i < ys.length := by rw [← H.out.2.2.2.2]; exact hlt
      obtain ⟨b1, o1, rfl, c0, c1, c2, c3, c4, c5, c6, c7, c8⟩ := (H.out.1.below hI.out.2).at i hlt
      have rx := ((H.out.1.below hI.out.2) i hlt).2
      have ry := ((H.out.2.1.below hI.out.2) i hlk).2
      have lx := H.out.2.2.1 _ (List.getElem_mem hlt)
      have ly := H.out.2.2.2.1 _ (List.getElem_mem hlk)
      have hstep : Hid (np xs[i] = np ys[i] → (xs.take (i + 1)).map np = (ys.take (i + 1)).map np) := np_step hI.out.1 hlt hlk
      have hne : Hid (¬ np xs[i] = np ys[i] → fb xs ys = false) := np_at hlt hlk
      have i0 : (0 : Int) ≤ (i : Int) := Int.natCast_nonneg _
      have i1 : (i : Int) < (xs.length : Int) := Int.ofNat_lt.2 hlt
      have i2 : (i : Int) < (ys.length : Int) := Int.ofNat_lt.2 hlk
      obtain ⟨wA, hwA⟩ : ∃ W, wr.alloc (.cells (nA xs[i]) 31) = W := ⟨_, rfl⟩
      have hbA : Below wr.heap.size wr wA := by rw [← hwA]; exact (Below.refl _ _).alloc (Nat.le_refl _) _
      have nA1 : wA.heap.size = wr.heap.size + 1 := by rw [← hwA]; simp
      have bA : Box wA wr.heap.size 31 (nA xs[i]) := by rw [← hwA]; exact Box.new _ _ _
      obtain ⟨b2, o2, rfl, d0, d1, d2, d3, d4, d5, d6, d7, d8⟩ := (H.out.2.1.below (hI.out.2.trans (hbA.mono hI.out.2.size))).at i hlk
      obtain ⟨wB, hwB⟩ : ∃ W, wA.alloc (.cells (nA ys[i]) 31) = W := ⟨_, rfl⟩
      have hbB : Below wA.heap.size wA wB := by rw [← hwB]; exact (Below.refl _ _).alloc (Nat.le_refl _) _
      have bB : Box wB wA.heap.size 31 (nA ys[i]) := by rw [← hwB]; exact Box.new _ _ _
      have bA' := bA.below hbB
      have hAB : Below wr.heap.size wr wB := hbA.trans (hbB.mono hbA.size)
      obtain ⟨u0, u1, u2, u3, u4, u5, u6, u7, u8⟩ := box_nine bA'
      obtain ⟨v0, v1, v2, v3, v4, v5, v6, v7, v8⟩ := box_nine bB
      have hK : Hid (Calls Try.prog 8 #[.agg (nA xs[i]), .agg (nA ys[i])] wB fun e w' => e = .returned (.bool (nb xs[i] ys[i])) ∧ Below wB.heap.size wB w') := sameNode_any xs[i] ys[i] wB lx ly (rx.below hAB) (ry.below hAB)
      have hAB' : Hid (Below wr.heap.size wr wB) := hAB
      obtain ⟨x, hx⟩ : ∃ x, xs[i] = x := ⟨_, rfl⟩
      obtain ⟨y, hy⟩ : ∃ y, ys[i] = y := ⟨_, rfl⟩
      rw [hx] at c0 c1 c2 c3 c4 c5 c6 c7 c8 hwA hstep hne u0 u1 u2 u3 u4 u5 u6 u7 u8 hK
      rw [hy] at d0 d1 d2 d3 d4 d5 d6 d7 d8 hwB hstep hne v0 v1 v2 v3 v4 v5 v6 v7 v8 hK
      rw [nA1] at v0 v1 v2 v3 v4 v5 v6 v7 v8
      obtain ⟨xd, xo, xs', xv, xi, xa, xn, xl, xf, xr, xb⟩ := x
      obtain ⟨yd, yo, ys', yv, yi, ya, yn, yl, yf, yr, yb⟩ := y
      dsimp only [nA] at c0 c1 c2 c3 c4 c5 c6 c7 c8 hwA u0 u1 u2 u3 u4 u5 u6 u7 u8 d0 d1 d2 d3 d4 d5 d6 d7 d8 hwB v0 v1 v2 v3 v4 v5 v6 v7 v8 hK
      have hlt' : Hid (i < xs.length) := hlt
      have nA1' : Hid (wA.heap.size = wr.heap.size + 1) := nA1
      clear rx ry lx ly hx hy bA bB bA' hAB hbA hbB hlt hlk
      have G1 : Hid (wr.alloc (.cells #[.int .i64 xd, .int .i64 xo, .string (S xs'), .string (S xv), .string (S xi), .slice xa xl.length xn, .string (S xf), .string (S xr), .bool xb] 31) = wA) := hwA
      have G2 : Hid (wA.alloc (.cells #[.int .i64 yd, .int .i64 yo, .string (S ys'), .string (S yv), .string (S yi), .slice ya yl.length yn, .string (S yf), .string (S yr), .bool yb] 31) = wB) := hwB
      clear hwB nA1
      generalize S xs' = s1 at *
      generalize S xv = t1 at *
      generalize S xi = p1 at *
      generalize S xf = q1 at *
      generalize S xr = r1 at *
      generalize S ys' = s2 at *
      generalize S yv = t2 at *
      generalize S yi = p2 at *
      generalize S yf = q2 at *
      generalize S yr = r2 at *
      go_upto_region 6 with fail
      clear c0 c1 c2 c3 c4 c5 c6 c7 c8 hwA
      have hwB := G2.out
      go_upto_region 7 with fail
      clear d0 d1 d2 d3 d4 d5 d6 d7 d8 hwB
      have nA1 := nA1'.out
      rw [nA1]
      cases hq : nb ⟨xd, xo, xs', xv, xi, xa, xn, xl, xf, xr, xb⟩ ⟨yd, yo, ys', yv, yi, ya, yn, yl, yf, yr, yb⟩ with
      | true =>
        rw [hq] at hK
        have hst := hstep.out ((nb_iff _ _).1 hq)
        have hst' : Hid ((xs.take (i + 1)).map np = (ys.take (i + 1)).map np) := hst
        clear hst hstep hne
        go_wp2_with (go_at_call 8; refine hK.out.mono ?_; rintro e w2 ⟨rfl, hb2⟩)
        go_roundw
        case rel => exact ⟨i + 1, hlt'.out, by simp, hst'.out, hI.out.2.trans ((hAB'.out.trans (hb2.mono hAB'.out.size)).mono hI.out.2.size)⟩
        case measure => have := hlt'.out; simp [intOf]; omega
      | false =>
        rw [hq] at hK
        have hf : Hid (fb xs ys = false) := hne.out (fun h => by rw [(nb_iff _ _).2 h] at hq; cases hq)
        clear hstep hne
        go_wp2_with (go_at_call 8; refine hK.out.mono ?_; rintro e w2 ⟨rfl, hb2⟩)
        go_ret
        exact ⟨by rw [hf.out]; rfl, hI.out.2.trans ((hAB'.out.trans (hb2.mono hAB'.out.size)).mono hI.out.2.size)⟩
    · have e : i = xs.length := by omega
      subst e
      have k1 : ¬ (xs.length : Int) < (xs.length : Int) := by omega
      have hy : Hid (fb xs ys = true) := fb_yes (by have := hI.out.1; rw [List.take_length, H.out.2.2.2.2, List.take_length] at this; exact this)
      go_wp2_with fail
      go_ret
      exact ⟨by rw [hy.out]; rfl, hI.out.2⟩

set_option maxRecDepth 100000 in
set_option maxHeartbeats 1000000 in
theorem equalFunc_any (xs ys : List Nod) (a b : Option Addr) (c d : Nat) (w : World) (hn : xs.length ≤ 1099511627745) (hm : ys.length ≤ 1099511627745) (hlx : ∀ x ∈ xs, x.l.length ≤ 8796093021952) (hly : ∀ x ∈ ys, x.l.length ≤ 8796093021952) (h1 : FRow w a xs) (h2 : FRow w b ys) :
    Calls Try.prog 7 #[.slice a xs.length c, .slice b ys.length d, .func (.func 8) #[] #[]] w fun e w' => e = .returned (.bool (fb xs ys)) ∧ Below w.heap.size w w' := by
  by_cases hlen : xs.length = ys.length
  · exact equalFunc_loop xs ys a b c d w hn hlen hlx hly h1 h2
  · have hno : Hid (fb xs ys = false) := fb_len hlen
    have hb0 : ((xs.length : Int) != (ys.length : Int)) = true := by simp; omega
    clear hlen h1 h2 hlx hly
    go_enter Try.func7, Try.ntmps7
    go_wp2_with fail
    go_ret
    exact ⟨by rw [hno.out]; rfl, Below.refl _ _⟩

set_option maxRecDepth 100000 in
set_option maxHeartbeats 1000000 in
theorem equal_any (xs ys : List Nod) (a b : Option Addr) (c d : Nat) (w : World) (hn : xs.length ≤ 1099511627745) (hm : ys.length ≤ 1099511627745) (hlx : ∀ x ∈ xs, x.l.length ≤ 8796093021952) (hly : ∀ x ∈ ys, x.l.length ≤ 8796093021952) (h1 : FRow w a xs) (h2 : FRow w b ys) :
    Calls Try.prog 4 #[.slice a xs.length c, .slice b ys.length d] w fun e w' => e = .returned (.bool (fb xs ys)) ∧ Below w.heap.size w w' := by
  have hF : Hid (Calls Try.prog 7 #[.slice a xs.length c, .slice b ys.length d, .func (.func 8) #[] #[]] w fun e w' => e = .returned (.bool (fb xs ys)) ∧ Below w.heap.size w w') := equalFunc_any xs ys a b c d w hn hm hlx hly h1 h2
  clear h1 h2 hlx hly
  go_enter Try.func4, Try.ntmps4
  go_wp2_with (go_at_call 7; refine hF.out.mono ?_; rintro e w' ⟨rfl, hb⟩)
  go_ret
  exact ⟨rfl, hb⟩
end Go.Proofs.Ytpddmknlkhhjmaa
