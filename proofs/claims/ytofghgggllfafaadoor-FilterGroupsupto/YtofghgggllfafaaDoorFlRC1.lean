import Derived.Test.YtofghgggllfafaaDoorFlRCk
namespace Go.Proofs.YtofghgggllfafaaDoor
open Go.RowKit
open TextMath
set_option linter.unusedVariables false

theorem quiet_sum {P : Program} {f : FuncId} {args : Array Value} {w : World} {a x : Nat} {v : Value} (h : Calls P f args (w.drewN (a + x)) fun e w' => e = .returned v ∧ w' = w.drewN (a + x)) : Calls P f args (w.drewN (a + x)) fun e w'' => e = .returned v ∧ ∃ n, w'' = w.drewN (a + n) :=
  h.mono fun _ _ ⟨he, hm⟩ => ⟨he, x, hm⟩
set_option maxRecDepth 100000 in
set_option maxHeartbeats 4000000 in
theorem rFollows_any (xs : List Nod) (i : Nat) (hi : i < xs.length) (a : Option Addr) (c : Nat) (w : World) (hF : FRow w a xs) (hn : xs.length ≤ 1048577) (hok : okc (pre xs i)) :
    Calls Tryd.prog 21 #[.slice a xs.length c, .int .i64 (i : Int)] w fun e w' => e = .returned (.bool (fol (pre xs i) xs[i])) ∧ Below w.heap.size w w' := by
  obtain ⟨b, off, rfl, z0, z⟩ := hF.at i hi
  clear z
  cases i with
  | zero =>
    have z0' : w.cell? ⟨b, off, none⟩ = some (.int .i64 xs[0].dep) := by simpa using z0
    have hr : Hid (fol (pre xs 0) xs[0] = decide (xs[0].dep = 1)) := by unfold Hid; rw [pre_zero]; rfl
    have j1 : (0 : Int) < (xs.length : Int) := by omega
    clear z0 hF hok
    generalize xs[0].dep = D at *
    go_enter Tryd.func21, Tryd.ntmps21
    go_wp2_with fail
    go_ret
    refine ⟨?_, Below.refl _ _⟩
    rw [hr.out]
    by_cases h : D = 1
    · subst h; rfl
    · have : (D == 1) = false := by simpa using h
      simp [h]
  | succ k =>
    have hk : k < xs.length := by omega
    have hbk := hok.2 xs[k] (by rw [pre_succ hk]; exact List.mem_cons_self ..)
    have hr : fol (pre xs (k + 1)) xs[k + 1] = decide (2 ≤ xs[k + 1].dep ∧ xs[k + 1].dep ≤ xs[k].dep + 1 ∧ (xs[k + 1].dep ≤ xs[k].dep ∨ hol xs[k].op = true)) := by rw [pre_succ hk]; rfl
    rw [hr]
    clear hr
    obtain ⟨b', off', q, c0, c1, c2, c3, c4, c5, c6, c7, c8⟩ := hF.at k hk
    injection q with q; injection q with q1 q2; subst q1 q2
    obtain ⟨j, hj⟩ : ∃ j, j = k + 1 := ⟨_, rfl⟩
    obtain ⟨D, hD⟩ : ∃ D, xs[k + 1].dep = D := ⟨_, rfl⟩
    rw [hD] at z0 ⊢
    rw [← hj] at z0 ⊢
    obtain ⟨⟨B, o, xs', xv, xi, xa, xn, xl, xf, xr, xb⟩, hx⟩ : ∃ x, xs[k] = x := ⟨_, rfl⟩
    rw [hx] at c0 c1 c2 c3 c4 c5 c6 c7 c8 hbk ⊢
    dsimp only at c0 c1 c2 c3 c4 c5 c6 c7 c8 hbk ⊢
    obtain ⟨W, hW⟩ : ∃ W, w.alloc (.cells #[.int .i64 B, .int .i64 o, .string (S xs'), .string (S xv), .string (S xi), .slice xa xl.length xn, .string (S xf), .string (S xr), .bool xb] 38) = W := ⟨_, rfl⟩
    have p : Box W w.heap.size 38 #[.int .i64 B, .int .i64 o, .string (S xs'), .string (S xv), .string (S xi), .slice xa xl.length xn, .string (S xf), .string (S xr), .bool xb] := by rw [← hW]; exact Box.new _ _ _
    have hB : Below w.heap.size w W := by rw [← hW]; exact (Below.refl _ _).alloc (Nat.le_refl _) _
    have y0 : W.cell? ⟨w.heap.size, 0, none⟩ = some (.int .i64 B) := (p.cell 0 (by simp)).1
    have y1 : W.cell? ⟨w.heap.size, 1, none⟩ = some (.int .i64 o) := (p.cell 1 (by simp)).1
    have x0 : W.cell? ⟨b, off + j * 9, none⟩ = some (.int .i64 D) := by rw [hB.cell (World.block_lt_of_cell? w _ z0)]; exact z0
    have hB' : Hid (Below w.heap.size w W) := hB
    have i0 : (0 : Int) ≤ (j : Int) := Int.natCast_nonneg _
    have i1 : (j : Int) < (xs.length : Int) := by omega
    have i2 : (0 : Int) ≤ (k : Int) := Int.natCast_nonneg _
    have i3 : (k : Int) < (xs.length : Int) := Int.ofNat_lt.2 hk
    have i4 : ((j : Int) == 0) = false := by simp; omega
    have i5 : ¬ (j : Int) = 0 := by omega
    have i6 : ¬ j = 0 := by omega
    have hgb : Hid (1 ≤ B ∧ B ≤ 64) := hbk
    have cA : Hid (D < 2 → decide (2 ≤ D ∧ D ≤ B + 1 ∧ (D ≤ B ∨ hol o = true)) = false) := fun h => decide_eq_false (by omega)
    have cB : Hid (¬ D < 2 → D > B + 1 → decide (2 ≤ D ∧ D ≤ B + 1 ∧ (D ≤ B ∨ hol o = true)) = false) := fun h h' => decide_eq_false (by omega)
    have cC : Hid (¬ D < 2 → ¬ D > B + 1 → D ≤ B → decide (2 ≤ D ∧ D ≤ B + 1 ∧ (D ≤ B ∨ hol o = true)) = true) := fun h h' h'' => decide_eq_true ⟨by omega, by omega, Or.inl h''⟩
    have cD : Hid (¬ D < 2 → ¬ D > B + 1 → ¬ D ≤ B → decide (2 ≤ D ∧ D ≤ B + 1 ∧ (D ≤ B ∨ hol o = true)) = hol o) := fun h h' h'' => by
      cases e : hol o with
      | true => exact decide_eq_true ⟨by omega, by omega, Or.inr rfl⟩
      | false => exact decide_eq_false (fun q => by rcases q.2.2 with q | q; exact h'' q; cases q)
    have hwd := wrD hj (by omega)
    have hwi := wrI (d := B) (by omega) (by omega)
    obtain ⟨dd, hdd⟩ : ∃ dd, decide (2 ≤ D ∧ D ≤ B + 1 ∧ (D ≤ B ∨ hol o = true)) = dd := ⟨_, rfl⟩
    rw [hdd] at cA cB cC cD ⊢
    generalize S xs' = s1 at *
    generalize S xv = s2 at *
    generalize S xi = s3 at *
    generalize S xf = s4 at *
    generalize S xr = s5 at *
    have HW : Hid (wrap64 (B + 1) = B + 1 ∧ IntKind.i64.wrap (B + 1) = B + 1) := hwi
    obtain ⟨u1, u2⟩ := hwd
    clear hwi hF hok hbk hB p hx hD hj hdd z0
    go_enter Tryd.func21, Tryd.ntmps21
    go_upto_region 4 with fail
    clear c0 c1 c2 c3 c4 c5 c6 c7 c8 hW u1 u2 i2 i3 i4 i5 i6
    obtain ⟨q1, q2⟩ := HW.out
    by_cases hA : D < 2
    · have eA : decide (D < 2) = true := decide_eq_true hA
      have hE := cA.out hA
      clear cA cB cC cD
      go_quiet (fail)
      go_wp2_with fail
      go_ret
      exact ⟨by rw [← hE]; rfl, hB'.out.trans (drewN_below _ _ _)⟩
    · have eA : decide (D < 2) = false := decide_eq_false hA
      by_cases hC : D > B + 1
      · have eB : decide (D > B + 1) = true := decide_eq_true hC
        have eB' : decide (B + 1 < D) = true := decide_eq_true hC
        have hE := cB.out hA hC
        clear cA cB cC cD
        go_quiet (fail)
        go_wp2_with fail
        go_ret
        exact ⟨by rw [← hE]; rfl, hB'.out.trans (drewN_below _ _ _)⟩
      · have eB : decide (D > B + 1) = false := decide_eq_false hC
        have eB' : decide (B + 1 < D) = false := decide_eq_false hC
        by_cases hG : D ≤ B
        · have eC : decide (D ≤ B) = true := decide_eq_true hG
          have hE : Hid (true = dd) := (cC.out hA hC hG).symm
          clear cA cB cC cD
          go_quiet (fail)
          go_wp2_with fail
          go_quiet (fail)
          go_wp2_with fail
          go_ret
          first | exact ⟨by rw [← hE.out]; rfl, hB'.out.trans ((drewN_below _ _ _).trans (drewN_below _ _ _))⟩ | exact ⟨by rw [← hE.out]; rfl, hB'.out.trans (drewN_below _ _ _)⟩
        · have eC : decide (D ≤ B) = false := decide_eq_false hG
          have hE : Hid (hol o = dd) := (cD.out hA hC hG).symm
          clear cA cB cC cD
          go_quiet (fail)
          go_wp2_with fail
          have hBV : Hid (Below w.heap.size w (W.drewN nq)) := hB'.out.trans (drewN_below _ _ _)
          have x0' : (W.drewN nq).cell? ⟨b, off + j * 9, none⟩ = some (.int .i64 D) := x0
          have y0' : (W.drewN nq).cell? ⟨w.heap.size, 0, none⟩ = some (.int .i64 B) := y0
          have y1' : (W.drewN nq).cell? ⟨w.heap.size, 1, none⟩ = some (.int .i64 o) := y1
          clear x0 y0 y1 hB'
          generalize W.drewN nq = V at *
          go_quiet ((go_at_call 11; exact Calls.quiet_of_same (rHolds_any o _)))
          go_wp2_with fail
          go_ret
          exact ⟨by rw [← hE.out]; rfl, hBV.out.trans (drewN_below _ _ _)⟩

end Go.Proofs.YtofghgggllfafaaDoor
