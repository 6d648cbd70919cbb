import Derived.Test.YtofghgggllfafaaDoorFlRef
namespace Go.Proofs.YtofghgggllfafaaDoor
open Go.RowKit
set_option linter.unusedVariables false

set_option maxRecDepth 100000 in
set_option maxHeartbeats 4000000 in
theorem rEqual_loop (xs ys : List Nod) (a b : Option Addr) (c d : Nat) (w : World) (hn : xs.length ≤ 1048577) (hlen : xs.length = ys.length) (hlx : ∀ x ∈ xs, x.l.length ≤ 1048576) (hly : ∀ x ∈ ys, x.l.length ≤ 1048576) (h1 : FRow w a xs) (h2 : FRow w b ys) :
    Calls Tryd.prog 19 #[.slice a xs.length c, .slice b ys.length d] w fun e w' => e = .returned (.bool (fb xs ys)) ∧ Below w.heap.size w w' := by
  have H : Hid (FRow w a xs ∧ FRow w b ys ∧ (∀ x ∈ xs, x.l.length ≤ 1048576) ∧ (∀ x ∈ ys, x.l.length ≤ 1048576) ∧ xs.length = ys.length) := ⟨h1, h2, hlx, hly, hlen⟩
  have hb0 : ((xs.length : Int) != (ys.length : Int)) = false := by rw [hlen]; simp
  clear h1 h2 hlx hly hlen
  go_enter Tryd.func19, Tryd.ntmps19
  go_wp2_with fail
  go_loopw [5] (fun iv wr => ∃ i : Nat, i ≤ xs.length ∧ iv = .int .i64 (i : Int) ∧ Hid ((xs.take i).map np = (ys.take i).map np ∧ Below w.heap.size w wr)) (fun iv _ => xs.length - (intOf iv).toNat)
  case atStart => exact ⟨0, Nat.zero_le _, rfl, by simp, Below.refl _ _⟩
  case round =>
    obtain ⟨i, hi, rfl, hI⟩ := hrel
    clear hb0
    by_cases hlt : i < xs.length
    · have hlk : i < ys.length := by rw [← H.out.2.2.2.2]; exact hlt
      have hBr : Below w.heap.size w wr := hI.out.2
      obtain ⟨b1, o1, rfl, z1⟩ := (H.out.1.below hBr).at i hlt
      obtain ⟨b2, o2, rfl, z2⟩ := (H.out.2.1.below hBr).at i hlk
      clear z1 z2
      have hstep : Hid (np xs[i] = np ys[i] → (xs.take (i + 1)).map np = (ys.take (i + 1)).map np) := np_step hI.out.1 hlt hlk
      have hne : Hid (¬ np xs[i] = np ys[i] → fb xs ys = false) := np_at hlt hlk
      have i0 : (0 : Int) ≤ (i : Int) := Int.natCast_nonneg _
      have i1 : (i : Int) < (xs.length : Int) := Int.ofNat_lt.2 hlt
      have i2 : (i : Int) < (ys.length : Int) := Int.ofNat_lt.2 hlk
      have HS : ∀ W, Below w.heap.size w W → (W.cell? ⟨b1, o1 + i * 9, none⟩ = some (.int .i64 xs[i].dep) ∧ W.cell? ⟨b1, o1 + i * 9 + 1, none⟩ = some (.int .i64 xs[i].op) ∧ W.cell? ⟨b1, o1 + i * 9 + 2, none⟩ = some (.string (S xs[i].desc)) ∧ W.cell? ⟨b1, o1 + i * 9 + 3, none⟩ = some (.string (S xs[i].val)) ∧ W.cell? ⟨b1, o1 + i * 9 + 4, none⟩ = some (.string (S xs[i].ini)) ∧ W.cell? ⟨b1, o1 + i * 9 + 5, none⟩ = some (.slice xs[i].a xs[i].l.length xs[i].n) ∧ W.cell? ⟨b1, o1 + i * 9 + 6, none⟩ = some (.string (S xs[i].fin)) ∧ W.cell? ⟨b1, o1 + i * 9 + 7, none⟩ = some (.string (S xs[i].rule)) ∧ W.cell? ⟨b1, o1 + i * 9 + 8, none⟩ = some (.bool xs[i].dn)) ∧ (W.cell? ⟨b2, o2 + i * 9, none⟩ = some (.int .i64 ys[i].dep) ∧ W.cell? ⟨b2, o2 + i * 9 + 1, none⟩ = some (.int .i64 ys[i].op) ∧ W.cell? ⟨b2, o2 + i * 9 + 2, none⟩ = some (.string (S ys[i].desc)) ∧ W.cell? ⟨b2, o2 + i * 9 + 3, none⟩ = some (.string (S ys[i].val)) ∧ W.cell? ⟨b2, o2 + i * 9 + 4, none⟩ = some (.string (S ys[i].ini)) ∧ W.cell? ⟨b2, o2 + i * 9 + 5, none⟩ = some (.slice ys[i].a ys[i].l.length ys[i].n) ∧ W.cell? ⟨b2, o2 + i * 9 + 6, none⟩ = some (.string (S ys[i].fin)) ∧ W.cell? ⟨b2, o2 + i * 9 + 7, none⟩ = some (.string (S ys[i].rule)) ∧ W.cell? ⟨b2, o2 + i * 9 + 8, none⟩ = some (.bool ys[i].dn)) := fun W hW => by
        obtain ⟨_, _, e1, c0, c1, c2, c3, c4, c5, c6, c7, c8⟩ := (H.out.1.below hW).at i hlt
        obtain ⟨_, _, e2, d0, d1, d2, d3, d4, d5, d6, d7, d8⟩ := (H.out.2.1.below hW).at i hlk
        injection e1 with e1; injection e1 with e1 e3; subst e1 e3
        injection e2 with e2; injection e2 with e2 e3; subst e2 e3
        exact ⟨⟨c0, c1, c2, c3, c4, c5, c6, c7, c8⟩, d0, d1, d2, d3, d4, d5, d6, d7, d8⟩
      have hK : Hid (∀ W, Below w.heap.size w W → Calls Tryd.prog 26 #[.agg (nA xs[i]), .agg (nA ys[i])] W fun e w' => e = .returned (.bool (nb xs[i] ys[i])) ∧ Below W.heap.size W w') := fun W hW => rSame_any xs[i] ys[i] W (H.out.2.2.1 _ (List.getElem_mem hlt)) (H.out.2.2.2.1 _ (List.getElem_mem hlk)) ((H.out.1.below hW) i hlt).2 ((H.out.2.1.below hW) i hlk).2
      obtain ⟨x, hx⟩ : ∃ x, xs[i] = x := ⟨_, rfl⟩
      obtain ⟨y, hy⟩ : ∃ y, ys[i] = y := ⟨_, rfl⟩
      rw [hx] at HS hstep hne hK
      rw [hy] at HS hstep hne hK
      obtain ⟨xd, xo, xs', xv, xi, xa, xn, xl, xf, xr, xb⟩ := x
      obtain ⟨yd, yo, ys', yv, yi, ya, yn, yl, yf, yr, yb⟩ := y
      dsimp only [nA] at HS hK
      have hlt' : Hid (i < xs.length) := hlt
      clear hx hy hlt hlk
      generalize S xs' = s1 at *
      generalize S xv = t1 at *
      generalize S xi = p1 at *
      generalize S xf = q1 at *
      generalize S xr = r1 at *
      generalize S ys' = s2 at *
      generalize S yv = t2 at *
      generalize S yi = p2 at *
      generalize S yf = q2 at *
      generalize S yr = r2 at *
      obtain ⟨⟨c0, c1, c2, c3, c4, c5, c6, c7, c8⟩, d0, d1, d2, d3, d4, d5, d6, d7, d8⟩ := HS wr hBr
      obtain ⟨nq, hq⟩ : ∃ nq, nb ⟨xd, xo, xs', xv, xi, xa, xn, xl, xf, xr, xb⟩ ⟨yd, yo, ys', yv, yi, ya, yn, yl, yf, yr, yb⟩ = nq := ⟨_, rfl⟩
      rw [hq] at hK
      go_wp2_with fail
      go_region_held3 (fun W => (W.cell? ⟨b1, o1 + i * 9, none⟩ = some (.int .i64 xd) ∧ W.cell? ⟨b1, o1 + i * 9 + 1, none⟩ = some (.int .i64 xo) ∧ W.cell? ⟨b1, o1 + i * 9 + 2, none⟩ = some (.string s1) ∧ W.cell? ⟨b1, o1 + i * 9 + 3, none⟩ = some (.string t1) ∧ W.cell? ⟨b1, o1 + i * 9 + 4, none⟩ = some (.string p1) ∧ W.cell? ⟨b1, o1 + i * 9 + 5, none⟩ = some (.slice xa xl.length xn) ∧ W.cell? ⟨b1, o1 + i * 9 + 6, none⟩ = some (.string q1) ∧ W.cell? ⟨b1, o1 + i * 9 + 7, none⟩ = some (.string r1) ∧ W.cell? ⟨b1, o1 + i * 9 + 8, none⟩ = some (.bool xb)) ∧ (W.cell? ⟨b2, o2 + i * 9, none⟩ = some (.int .i64 yd) ∧ W.cell? ⟨b2, o2 + i * 9 + 1, none⟩ = some (.int .i64 yo) ∧ W.cell? ⟨b2, o2 + i * 9 + 2, none⟩ = some (.string s2) ∧ W.cell? ⟨b2, o2 + i * 9 + 3, none⟩ = some (.string t2) ∧ W.cell? ⟨b2, o2 + i * 9 + 4, none⟩ = some (.string p2) ∧ W.cell? ⟨b2, o2 + i * 9 + 5, none⟩ = some (.slice ya yl.length yn) ∧ W.cell? ⟨b2, o2 + i * 9 + 6, none⟩ = some (.string q2) ∧ W.cell? ⟨b2, o2 + i * 9 + 7, none⟩ = some (.string r2) ∧ W.cell? ⟨b2, o2 + i * 9 + 8, none⟩ = some (.bool yb)))
        (first | exact HS _ hBr.drew | exact HS _ HB3)
        (first | (go_at_call 26; refine (hK.out _ hBr.drew).mono ?_; rintro e w3 ⟨rfl, hb3⟩; have HB3 : Below w.heap.size w w3 := hBr.drew.trans (hb3.mono hBr.drew.size)))
      have hJ : Hid (Below w.heap.size w w3) := HB3
      clear HS hK c0 c1 c2 c3 c4 c5 c6 c7 c8 d0 d1 d2 d3 d4 d5 d6 d7 d8 hb3 HB3 hBr
      cases nq with
      | true =>
        have hst' : Hid ((xs.take (i + 1)).map np = (ys.take (i + 1)).map np) := hstep.out ((nb_iff _ _).1 hq)
        clear hstep hne
        go_wp2_with fail
        go_roundw
        case rel => exact ⟨i + 1, hlt'.out, by simp, hst'.out, hJ.out⟩
        case measure => have := hlt'.out; simp [intOf]; omega
      | false =>
        have hf : Hid (fb xs ys = false) := hne.out (fun h => by rw [(nb_iff _ _).2 h] at hq; cases hq)
        clear hstep hne
        go_wp2_with fail
        go_ret
        exact ⟨by rw [hf.out]; rfl, hJ.out⟩
    · have e : i = xs.length := by omega
      subst e
      have k1 : ¬ (xs.length : Int) < (xs.length : Int) := by omega
      have hy : Hid (fb xs ys = true) := fb_yes (by have := hI.out.1; rw [List.take_length, H.out.2.2.2.2, List.take_length] at this; exact this)
      go_wp2_with fail
      go_ret
      exact ⟨by rw [hy.out]; rfl, hI.out.2⟩

set_option maxRecDepth 100000 in
set_option maxHeartbeats 1000000 in
theorem rEqual_any (xs ys : List Nod) (a b : Option Addr) (c d : Nat) (w : World) (hn : xs.length ≤ 1048577) (hm : ys.length ≤ 1048577) (hlx : ∀ x ∈ xs, x.l.length ≤ 1048576) (hly : ∀ x ∈ ys, x.l.length ≤ 1048576) (h1 : FRow w a xs) (h2 : FRow w b ys) :
    Calls Tryd.prog 19 #[.slice a xs.length c, .slice b ys.length d] w fun e w' => e = .returned (.bool (fb xs ys)) ∧ Below w.heap.size w w' := by
  by_cases hlen : xs.length = ys.length
  · exact rEqual_loop xs ys a b c d w hn hlen hlx hly h1 h2
  · have hno : Hid (fb xs ys = false) := fb_len hlen
    have hb0 : ((xs.length : Int) != (ys.length : Int)) = true := by simp; omega
    clear hlen h1 h2 hlx hly
    go_enter Tryd.func19, Tryd.ntmps19
    go_wp2_with fail
    go_ret
    exact ⟨by rw [hno.out]; rfl, Below.refl _ _⟩
end Go.Proofs.YtofghgggllfafaaDoor
