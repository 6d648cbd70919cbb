import Derived.Test.YtmkmfnbjmakebaaPgCtC
namespace Go.Proofs.Ytmkmfnbjmakebaa
open Go.RowKit Go.Sort Go.Lib
open PgMath (Inc setOf cnt)
open PgHpM (Hd)
open PgCnM (occ)
set_option linter.unusedVariables false

set_option maxRecDepth 1000000 in
set_option maxHeartbeats 4000000 in
theorem counts_none (sa : Option Addr) (sc : Nat) (k : Int) (w : World) (h : LL w sa []) :
    Calls Try.prog 3 #[.slice sa 0 sc, .int .i64 k] w fun e w' => e = .returned (.bool true) ∧ Below w.heap.size w w' := by
  have h1 : Hid (Calls Try.prog 7 #[.int .i64 k, .slice sa 0 sc] w fun e w' => ∃ a c, e = .returned (.slice a 0 c) ∧ Below w.heap.size w w') := by
    refine Calls.mono (atl_call k sa [] sc w h) ?_
    rintro e w' ⟨a, c, rfl, _, q⟩
    have e0 : aL (lsts []) k = [] := by
      refine List.eq_nil_iff_forall_not_mem.2 (fun x hx => ?_)
      have := ((aL_is _ _).2 x).1 hx
      simp [lsts, PgCnM.occ] at this
    rw [e0]
    exact ⟨a, c, rfl, q⟩
  clear h
  go_enter Try.func3, Try.ntmps3
  go_wp2_with (first
    | (refine (Hid.out HB1 |> fun _ => ?_); go_at_call 7; refine (lit7 w1).mono ?_; rintro e w2 ⟨a2, c2, rfl, hb⟩; have HB2 : Hid (Below w.heap.size w w2) := HB1.out.trans (hb.mono HB1.out.size); clear hb)
    | (go_at_call 7; refine h1.out.mono ?_; rintro e w1 ⟨a1, c1, rfl, hb⟩; have HB1 : Hid (Below w.heap.size w w1) := hb; clear hb))
  go_ret
  exact ⟨rfl, HB2.out⟩

set_option maxRecDepth 1000000 in
set_option maxHeartbeats 8000000 in
theorem counts_some (sa : Option Addr) (sc : Nat) (A : List Hd) (x : Hd) (k : Int) (w : World) (h : LL w sa (A ++ [x])) (hc : (A ++ [x]).length ≤ sc) :
    Calls Try.prog 3 #[.slice sa (A ++ [x]).length sc, .int .i64 k] w fun e w' => e = .returned (.bool true) ∧ Below w.heap.size w w' := by
  obtain ⟨D, hD⟩ : ∃ D, lsts (A ++ [x]) = D := ⟨_, rfl⟩
  obtain ⟨D2, hD2⟩ : ∃ D2, lsts A = D2 := ⟨_, rfl⟩
  obtain ⟨n, hn⟩ : ∃ n, (A ++ [x]).length = n := ⟨_, rfl⟩
  have hDn : D.length = n := by rw [← hD, ← hn]; simp [lsts]
  have hDl : Hid (D.length = n) := hDn
  obtain ⟨m, hm⟩ : ∃ m, A.length = m := ⟨_, rfl⟩
  have hAn : A.length + 1 = n := by rw [← hn]; simp
  have htot : tot D + n ≤ 1048576 := by have := h.2.2; rw [hD, hn] at this; exact this
  have htot2 : tot D2 ≤ 1048576 := by have := h.init.2.2; rw [hD2] at this; omega
  have hA : ∀ W, Hid (Below w.heap.size w W → ∀ kk : Int, Calls Try.prog 7 #[.int .i64 kk, .slice sa n sc] W fun e w' => ∃ a c, e = .returned (.slice a (aL D kk).length c) ∧ Rd w' a c (aL D kk) ∧ Below W.heap.size W w') := fun W hW kk => by
    have := atl_call kk sa (A ++ [x]) sc W (h.below hW)
    rw [hD, hn] at this
    exact this
  have hA2 : ∀ W, Hid (Below w.heap.size w W → ∀ kk : Int, Calls Try.prog 7 #[.int .i64 kk, .slice sa m sc] W fun e w' => ∃ a c, e = .returned (.slice a (aL D2 kk).length c) ∧ Rd w' a c (aL D2 kk) ∧ Below W.heap.size W w') := fun W hW kk => by
    have := atl_call kk sa A sc W (h.init.below hW)
    rw [hD2, hm] at this
    exact this
  have hU : ∀ W, Hid (Below w.heap.size w W → Calls Try.prog 9 #[.slice sa n sc] W fun e w' => ∃ a c, e = .returned (.slice a (aL D 1).length c) ∧ Rd w' a c (aL D 1) ∧ Below W.heap.size W w') := fun W hW => by
    have := union_call sa (A ++ [x]) sc W (h.below hW)
    rw [hD, hn] at this
    exact this
  have hM : ∀ W, Hid (Below w.heap.size w W → Calls Try.prog 10 #[.slice sa n sc] W fun e w' => ∃ a c, e = .returned (.slice a (aL D (n : Int)).length c) ∧ Rd w' a c (aL D (n : Int)) ∧ Below W.heap.size W w') := fun W hW => by
    have hb := h.below hW
    obtain ⟨y, T, e⟩ : ∃ y T, A ++ [x] = y :: T := by cases A <;> simp
    have := meet_call sa y T sc W (by rw [← e]; exact hb) (by rw [← e]; exact hc)
    rw [← e, hD, hn] at this
    exact this
  have hAl : ∀ kk, (aL D kk).length ≤ 1048576 := fun kk => by have := aL_len D kk; omega
  have hAl2 : ∀ kk, (aL D2 kk).length ≤ 1048576 := fun kk => by have := aL_len D2 kk; omega
  have hsA : ∀ j, j ≤ 64 → (sA D j : Int) ≤ 67108864 := fun j hj => by
    have h1 := sA_le D j
    have h2 : j * tot D ≤ 64 * tot D := Nat.mul_le_mul_right _ hj
    omega
  have hsO : ∀ j, (sO (D.take j) : Int) ≤ 1048576 := fun j => by have := sO_le D j; omega
  have hN1 : Hid (aL D ((n : Int) + 1) = []) := aL_none D _ (by rw [hDn]; omega)
  have hSn : Hid (2 ≤ k → ∀ M9 M12, SetIs (fun y => y ∈ aL D2 (k - 1) ∧ y ∈ x.2.2) M9 → SetIs (fun y => y ∈ aL D2 k ∨ y ∈ M9) M12 → aL D k = M12) := fun hk M9 M12 q1 q2 => by
    refine PgMath.inc_eq _ _ (aL_is D k).1 q2.1 (fun y => ?_)
    have e : D = D2 ++ [x.2.2] := by rw [← hD, ← hD2]; simp [lsts]
    rw [e, aL_snoc D2 x.2.2 k hk, q2.2 y]
    show _ ↔ (y ∈ aL D2 k ∨ y ∈ M9)
    rw [q1.2 y]
  have hX : ∀ W, Hid (Below w.heap.size w W → Rd W x.1 x.2.1 x.2.2) := fun W hW => (h.2.1 x (List.mem_append.2 (Or.inr (List.mem_singleton.2 rfl)))).below hW
  have hxl : x.2.2.length ≤ 1048576 := by
    have h1 : x.2.2 ∈ lsts (A ++ [x]) := List.mem_map_of_mem (List.mem_append.2 (Or.inr (List.mem_singleton.2 rfl)))
    have := tot_take _ h1
    have := h.2.2
    omega
  have hElem : ∀ W, Hid (Below w.heap.size w W → ∀ i, i < n → ∃ (y : Hd) (b off : Nat), sa = some ⟨b, off, none⟩ ∧ W.cell? ⟨b, off + i, none⟩ = some (hv y) ∧ (Calls Try.prog 11 #[.slice y.1 y.2.2.length y.2.1] W fun e w' => ∃ v, e = .returned v ∧ (∃ a c, v = .slice a (setOf y.2.2).length c) ∧ Below W.heap.size W w') ∧ ((setOf y.2.2).length : Int) ≤ 1048576 ∧ sO (D.take (i + 1)) = sO (D.take i) + (setOf y.2.2).length) := fun W hW i hi => by
    have hi' : i < (A ++ [x]).length := by omega
    have hb := h.below hW
    obtain ⟨b, off, e, h1⟩ := hb.1 i hi'
    have h2 := hb.2.1 _ (List.getElem_mem hi')
    have h3 : i < D.length := by omega
    have h4 : D[i] = (A ++ [x])[i].2.2 := by
      have e9 : D = (A ++ [x]).map (fun h => h.2.2) := hD.symm
      simp only [e9, List.getElem_map]
    have h5 := sO_take D i h3
    rw [h4] at h5
    have h6 := sO_le D (i + 1)
    refine ⟨(A ++ [x])[i], b, off, e, h1, ?_, by omega, h5⟩
    refine (of_any _ _ _ W h2.1 h2.2.2.2).mono ?_
    rintro e w' ⟨v, rfl, hO, q⟩
    obtain ⟨a, m, c, rfl⟩ := ownI_slice hO
    obtain ⟨_, rfl⟩ := ownI_row hO
    exact ⟨_, rfl, ⟨a, c, rfl⟩, q⟩
  obtain ⟨b1, o1, hsa, c1⟩ := h.1 A.length (by simp)
  have hlast : (A ++ [x])[A.length]'(by simp) = x := by simp
  rw [hlast] at c1
  have hcl : Hid (∀ W, Below w.heap.size w W → W.cell? ⟨b1, o1 + m, none⟩ = some (hv x)) := fun W hW => by
    rw [← hm, hW.cell (World.block_lt_of_cell? w _ c1)]
    exact c1
  have hsl : ∀ W, (Instr.sliceAt 22 (.slice sa n sc) none (some (.int .i64 (m : Int))) none).run Try.prog W = .ok (.slice sa m sc) W := fun W => half_42 sa n sc m _ rfl (by omega) W
  obtain ⟨xa, xc, xl⟩ := x
  dsimp only [hv] at hcl hX hxl hSn
  rw [hn]
  have n1 : (1 : Int) ≤ (n : Int) := by omega
  have n2 : (n : Int) ≤ 1048576 := by omega
  have n0 : ((n : Int) == 0) = false := by simp; omega
  have nm : ((n : Int) - 1) = (m : Int) := by omega
  have m0 : (0 : Int) ≤ (m : Int) := Int.natCast_nonneg _
  have m1 : (m : Int) < (n : Int) := by omega
  have HB0 : Hid (Below w.heap.size w w) := Below.refl _ _
  clear h hc hD hD2 hn hDn hAn htot htot2 c1 hlast hm
  subst hsa
  go_enter Try.func3, Try.ntmps3
  by_cases hk : 2 ≤ k ∧ k ≤ (n : Int)
  · obtain ⟨k2, kn⟩ := hk
    replace hSn := hSn.out k2
    have hSk : Hid (∀ M9 M12, SetIs (fun y => y ∈ aL D2 (k - 1) ∧ y ∈ xl) M9 → SetIs (fun y => y ∈ aL D2 k ∨ y ∈ M9) M12 → aL D k = M12) := hSn
    clear hSn
    have k1 : (k : Int) ≤ 1048576 := by omega
    go_wp2_with (first
      | (refine (Hid.out HB12 |> fun _ => ?_); go_at_call 8; refine (same_yes (aL D k) M12 a10 a12 c10 c12 w12 K10d.out K12.out.1 K12.out.2).mono ?_; rintro e w13 ⟨rfl, hb⟩; have HB13 : Hid (Below w.heap.size w w13) := HB12.out.trans (hb.mono HB12.out.size); clear hb)
      | (refine (Hid.out HB11 |> fun _ => ?_); go_at_call 9; refine (union2 w11 a11 c11 (aL D2 k) a9 c9 M9 ⟨K11.out, by have := hAl2 k; omega⟩ ⟨K9c.out, by have := K9.out.2.2; have := hAl2 (k - 1); omega⟩).mono ?_; rintro e w12 ⟨a12, c12, M12, rfl, hr, hs, hl, hb⟩; have HB12 : Hid (Below w.heap.size w w12) := HB11.out.trans (hb.mono HB11.out.size); have K12 : Hid (Rd w12 a12 c12 M12 ∧ aL D k = M12) := ⟨hr, (hSk.out M9 M12 K9.out.2.1 hs)⟩; have K10d : Hid (Rd w12 a10 c10 (aL D k)) := K10c.out.below hb; clear hr hs hl hb)
      | (refine (Hid.out HB10 |> fun _ => ?_); go_at_call 7; refine ((hA2 w10).out HB10.out k).mono ?_; rintro e w11 ⟨a11, c11, rfl, hr, hb⟩; have HB11 : Hid (Below w.heap.size w w11) := HB10.out.trans (hb.mono HB10.out.size); have K11 : Hid (Rd w11 a11 c11 (aL D2 k)) := hr; have K9c : Hid (Rd w11 a9 c9 M9) := K9b.out.below hb; have K10c : Hid (Rd w11 a10 c10 (aL D k)) := K10.out.below hb; clear hr hb)
      | (refine (Hid.out HB9 |> fun _ => ?_); go_at_call 7; refine ((hA w9).out HB9.out k).mono ?_; rintro e w10 ⟨a10, c10, rfl, hr, hb⟩; have HB10 : Hid (Below w.heap.size w w10) := HB9.out.trans (hb.mono HB9.out.size); have K10 : Hid (Rd w10 a10 c10 (aL D k)) := hr; have K9b : Hid (Rd w10 a9 c9 M9) := K9.out.1.below hb; clear hr hb)
      | (refine (Hid.out HB8 |> fun _ => ?_); go_at_call 10; refine (meet2 w8 a8 c8 (aL D2 (k - 1)) xa xc xl ⟨K8.out, by have := hAl2 (k - 1); omega⟩ ⟨(hX w8).out HB8.out, by omega⟩).mono ?_; rintro e w9 ⟨a9, c9, M9, rfl, hr, hs, hl, hb⟩; have HB9 : Hid (Below w.heap.size w w9) := HB8.out.trans (hb.mono HB8.out.size); have K9 : Hid (Rd w9 a9 c9 M9 ∧ SetIs (fun x => x ∈ aL D2 (k - 1) ∧ x ∈ xl) M9 ∧ M9.length ≤ (aL D2 (k - 1)).length) := ⟨hr, hs, hl⟩; clear hr hs hl hb)
      | (refine (Hid.out HB7 |> fun _ => ?_); go_at_call 7; refine ((hA2 w7).out HB7.out (k - 1)).mono ?_; rintro e w8 ⟨a8, c8, rfl, hr, hb⟩; have HB8 : Hid (Below w.heap.size w w8) := HB7.out.trans (hb.mono HB7.out.size); have K8 : Hid (Rd w8 a8 c8 (aL D2 (k - 1))) := hr; clear hr hb)
      | (refine (Hid.out HB6 |> fun _ => ?_); go_at_call 7; refine ((hA w6).out HB6.out ((n : Int) + 1)).mono ?_; rintro e w7 ⟨a7, c7, rfl, hr, hb⟩; have HB7 : Hid (Below w.heap.size w w7) := HB6.out.trans (hb.mono HB6.out.size); rw [hN1.out, List.length_nil]; have hcx := hcl.out w7 HB7.out; clear hr hb)
      | (refine (Hid.out HB5 |> fun _ => ?_); go_at_call 8; refine (same_yes (aL D (n : Int)) (aL D (n : Int)) a4 a5 c4 c5 w5 K4b.out K5.out rfl).mono ?_; rintro e w6 ⟨rfl, hb⟩; have HB6 : Hid (Below w.heap.size w w6) := HB5.out.trans (hb.mono HB5.out.size); clear hb)
      | (refine (Hid.out HB4 |> fun _ => ?_); go_at_call 10; refine ((hM w4).out HB4.out).mono ?_; rintro e w5 ⟨a5, c5, rfl, hr, hb⟩; have HB5 : Hid (Below w.heap.size w w5) := HB4.out.trans (hb.mono HB4.out.size); have K5 : Hid (Rd w5 a5 c5 (aL D (n : Int))) := hr; have K4b : Hid (Rd w5 a4 c4 (aL D (n : Int))) := K4.out.below hb; clear hr hb)
      | (refine (Hid.out HB3 |> fun _ => ?_); go_at_call 7; refine ((hA w3).out HB3.out (n : Int)).mono ?_; rintro e w4 ⟨a4, c4, rfl, hr, hb⟩; have HB4 : Hid (Below w.heap.size w w4) := HB3.out.trans (hb.mono HB3.out.size); have K4 : Hid (Rd w4 a4 c4 (aL D (n : Int))) := hr; clear hr hb)
      | (refine (Hid.out HB2 |> fun _ => ?_); go_at_call 8; refine (same_yes (aL D 1) (aL D 1) a1 a2 c1 c2 w2 K1b.out K2.out rfl).mono ?_; rintro e w3 ⟨rfl, hb⟩; have HB3 : Hid (Below w.heap.size w w3) := HB2.out.trans (hb.mono HB2.out.size); clear hb)
      | (refine (Hid.out HB1 |> fun _ => ?_); go_at_call 9; refine ((hU w1).out HB1.out).mono ?_; rintro e w2 ⟨a2, c2, rfl, hr, hb⟩; have HB2 : Hid (Below w.heap.size w w2) := HB1.out.trans (hb.mono HB1.out.size); have K2 : Hid (Rd w2 a2 c2 (aL D 1)) := hr; have K1b : Hid (Rd w2 a1 c1 (aL D 1)) := K1.out.below hb; clear hr hb)
      | (refine (Hid.out HB0 |> fun _ => ?_); go_at_call 7; refine ((hA w).out HB0.out 1).mono ?_; rintro e w1 ⟨a1, c1, rfl, hr, hb⟩; have HB1 : Hid (Below w.heap.size w w1) := HB0.out.trans (hb.mono HB0.out.size); have K1 : Hid (Rd w1 a1 c1 (aL D 1)) := hr; clear hr hb))
    go_loopw [11, 12] (fun av ivv wr => ∃ j : Nat, ivv = .int .i64 ((j : Int) + 1) ∧ av = .int .i64 (sA D j : Int) ∧ j ≤ n ∧ j ≤ 64 ∧ Hid (Below w.heap.size w wr)) (fun _ ivv _ => n + 1 - (intOf ivv).toNat)
    case atStart => exact ⟨0, rfl, by simp [sA], Nat.zero_le _, Nat.zero_le _, HB13⟩
    case round =>
      obtain ⟨j, rfl, rfl, hj1, hj2, HQ⟩ := hrel
      have j0 : (0 : Int) ≤ (j : Int) := Int.natCast_nonneg _
      have hsb := hsA j hj2
      by_cases hjn : j < n
      · have q1 : ((j : Int) + 1 ≤ (n : Int)) := by omega
        by_cases hj64 : j < 64
        · have q2 : ((j : Int) + 1 ≤ 64) := by omega
          have hj' : Hid (j < n ∧ j < 64) := ⟨hjn, hj64⟩
          have hsu : Hid (sA D (j + 1) = sA D j + (aL D ((j : Int) + 1)).length) := sA_succ D j
          have hal := hAl ((j : Int) + 1)
          have s0 : (0 : Int) ≤ (sA D j : Int) := Int.natCast_nonneg _
          have l0 : (0 : Int) ≤ ((aL D ((j : Int) + 1)).length : Int) := Int.natCast_nonneg _
          have hcall := (hA wr).out HQ.out ((j : Int) + 1)
          obtain ⟨lj, hlj⟩ : ∃ lj, (aL D ((j : Int) + 1)).length = lj := ⟨_, rfl⟩
          rw [hlj] at hal l0 hcall
          have hlj' : Hid ((aL D ((j : Int) + 1)).length = lj) := hlj
          generalize hsj : sA D j = sj at *
          clear hjn hj64 hj1 hj2 hlj hsj
          go_wp2_with (go_at_call 7; refine hcall.mono ?_; rintro e w30 ⟨a30, c30, rfl, hr, hb⟩; have HB30 : Hid (Below w.heap.size w w30) := HQ.out.trans (hb.mono HQ.out.size); clear hr hb)
          go_roundw
          case rel => exact ⟨j + 1, by simp, by rw [hsu.out, hlj'.out]; simp, hj'.out.1, hj'.out.2, HB30⟩
          case measure => have := hj'.out; simp [intOf]; omega
        · have q2 : ¬ ((j : Int) + 1 ≤ 64) := by omega
          have q3 : (64 : Int) < (n : Int) := by omega
          clear hjn hj64 hj1 hj2 hsb
          go_wp2_with fail
          go_ret
          exact ⟨rfl, HQ.out⟩
      · have ej : j = n := by omega
        subst ej
        have q1 : ¬ ((j : Int) + 1 ≤ (j : Int)) := by omega
        have q3 : ¬ (64 : Int) < (j : Int) := by omega
        have hfin : Hid (sA D j = sO D) := by
          have h := sums D
          rw [hDl.out] at h
          exact h
        clear hjn hj1 hj2
        go_wp2_with fail
        go_loopw [10, 13] (fun ov ivv wq => ∃ i : Nat, ivv = .int .i64 (i : Int) ∧ ov = .int .i64 (sO (D.take i) : Int) ∧ i ≤ j ∧ Hid (Below w.heap.size w wq)) (fun _ ivv _ => j - (intOf ivv).toNat)
        case atStart => exact ⟨0, rfl, by simp [sO], Nat.zero_le _, HQ⟩
        case round =>
          obtain ⟨i, rfl, rfl, hi, HR⟩ := hrel
          have i0 : (0 : Int) ≤ (i : Int) := Int.natCast_nonneg _
          have hob := hsO i
          have o0 : (0 : Int) ≤ (sO (D.take i) : Int) := Int.natCast_nonneg _
          by_cases hij : i < j
          · have q4 : (i : Int) < (j : Int) := by omega
            obtain ⟨y, b2, o2, hsa, hc2, hof, hyl, hsu⟩ := (hElem wr).out HR.out i hij
            cases hsa
            have hij' : Hid (i < j) := hij
            have hyl' : Hid (sO (D.take (i + 1)) = sO (D.take i) + (setOf y.2.2).length) := hsu
            have y0 : (0 : Int) ≤ ((setOf y.2.2).length : Int) := Int.natCast_nonneg _
            obtain ⟨ya, yc, yl⟩ := y
            simp only [hv] at hc2
            dsimp only at hof hyl y0 hyl'
            generalize hlo : (setOf yl).length = lo at *
            generalize hso : sO (D.take i) = so at *
            clear hij hi hsu hlo hso
            go_wp2_with (go_at_call 11; refine hof.mono ?_; rintro e w31 ⟨v31, rfl, hv31, hb⟩; obtain ⟨a31, c31, rfl⟩ := hv31; have HB31 : Hid (Below w.heap.size w w31) := HR.out.trans (hb.mono HR.out.size); clear hb)
            go_roundw
            case rel => exact ⟨i + 1, by simp, by rw [hyl'.out]; simp, hij'.out, HB31⟩
            case measure => have := hij'.out; simp [intOf]; omega
          · have ei : i = j := by omega
            subst ei
            have q4 : ¬ (i : Int) < (i : Int) := by omega
            have heq : ((sO (D.take i) : Int) == (sA D i : Int)) = true := by
              have h := hfin.out
              have h2 : sO (D.take i) = sO D := by rw [List.take_of_length_le (Nat.le_of_eq hDl.out)]
              rw [h2, ← h]
              simp
            clear hij hi hfin
            go_wp2_with fail
            go_ret
            exact ⟨rfl, HR.out⟩
  · have hk' : k < 2 ∨ ((2 ≤ k) ∧ (n : Int) < k) := by omega
    rcases hk' with k2 | ⟨k2, kn⟩
    · clear hk hSn hA2 hAl2 hX hxl
      go_wp2_with (first
        | (refine (Hid.out HB6 |> fun _ => ?_); go_at_call 7; refine ((hA w6).out HB6.out ((n : Int) + 1)).mono ?_; rintro e w7 ⟨a7, c7, rfl, hr, hb⟩; have HB7 : Hid (Below w.heap.size w w7) := HB6.out.trans (hb.mono HB6.out.size); rw [hN1.out, List.length_nil]; have hcx := hcl.out w7 HB7.out; clear hr hb)
        | (refine (Hid.out HB5 |> fun _ => ?_); go_at_call 8; refine (same_yes (aL D (n : Int)) (aL D (n : Int)) a4 a5 c4 c5 w5 K4b.out K5.out rfl).mono ?_; rintro e w6 ⟨rfl, hb⟩; have HB6 : Hid (Below w.heap.size w w6) := HB5.out.trans (hb.mono HB5.out.size); clear hb)
        | (refine (Hid.out HB4 |> fun _ => ?_); go_at_call 10; refine ((hM w4).out HB4.out).mono ?_; rintro e w5 ⟨a5, c5, rfl, hr, hb⟩; have HB5 : Hid (Below w.heap.size w w5) := HB4.out.trans (hb.mono HB4.out.size); have K5 : Hid (Rd w5 a5 c5 (aL D (n : Int))) := hr; have K4b : Hid (Rd w5 a4 c4 (aL D (n : Int))) := K4.out.below hb; clear hr hb)
        | (refine (Hid.out HB3 |> fun _ => ?_); go_at_call 7; refine ((hA w3).out HB3.out (n : Int)).mono ?_; rintro e w4 ⟨a4, c4, rfl, hr, hb⟩; have HB4 : Hid (Below w.heap.size w w4) := HB3.out.trans (hb.mono HB3.out.size); have K4 : Hid (Rd w4 a4 c4 (aL D (n : Int))) := hr; clear hr hb)
        | (refine (Hid.out HB2 |> fun _ => ?_); go_at_call 8; refine (same_yes (aL D 1) (aL D 1) a1 a2 c1 c2 w2 K1b.out K2.out rfl).mono ?_; rintro e w3 ⟨rfl, hb⟩; have HB3 : Hid (Below w.heap.size w w3) := HB2.out.trans (hb.mono HB2.out.size); clear hb)
        | (refine (Hid.out HB1 |> fun _ => ?_); go_at_call 9; refine ((hU w1).out HB1.out).mono ?_; rintro e w2 ⟨a2, c2, rfl, hr, hb⟩; have HB2 : Hid (Below w.heap.size w w2) := HB1.out.trans (hb.mono HB1.out.size); have K2 : Hid (Rd w2 a2 c2 (aL D 1)) := hr; have K1b : Hid (Rd w2 a1 c1 (aL D 1)) := K1.out.below hb; clear hr hb)
        | (refine (Hid.out HB0 |> fun _ => ?_); go_at_call 7; refine ((hA w).out HB0.out 1).mono ?_; rintro e w1 ⟨a1, c1, rfl, hr, hb⟩; have HB1 : Hid (Below w.heap.size w w1) := HB0.out.trans (hb.mono HB0.out.size); have K1 : Hid (Rd w1 a1 c1 (aL D 1)) := hr; clear hr hb))
      go_loopw [11, 12] (fun av ivv wr => ∃ j : Nat, ivv = .int .i64 ((j : Int) + 1) ∧ av = .int .i64 (sA D j : Int) ∧ j ≤ n ∧ j ≤ 64 ∧ Hid (Below w.heap.size w wr)) (fun _ ivv _ => n + 1 - (intOf ivv).toNat)
      case atStart => exact ⟨0, rfl, by simp [sA], Nat.zero_le _, Nat.zero_le _, HB7⟩
      case round =>
        obtain ⟨j, rfl, rfl, hj1, hj2, HQ⟩ := hrel
        have j0 : (0 : Int) ≤ (j : Int) := Int.natCast_nonneg _
        have hsb := hsA j hj2
        by_cases hjn : j < n
        · have q1 : ((j : Int) + 1 ≤ (n : Int)) := by omega
          by_cases hj64 : j < 64
          · have q2 : ((j : Int) + 1 ≤ 64) := by omega
            have hj' : Hid (j < n ∧ j < 64) := ⟨hjn, hj64⟩
            have hsu : Hid (sA D (j + 1) = sA D j + (aL D ((j : Int) + 1)).length) := sA_succ D j
            have hal := hAl ((j : Int) + 1)
            have s0 : (0 : Int) ≤ (sA D j : Int) := Int.natCast_nonneg _
            have l0 : (0 : Int) ≤ ((aL D ((j : Int) + 1)).length : Int) := Int.natCast_nonneg _
            have hcall := (hA wr).out HQ.out ((j : Int) + 1)
            obtain ⟨lj, hlj⟩ : ∃ lj, (aL D ((j : Int) + 1)).length = lj := ⟨_, rfl⟩
            rw [hlj] at hal l0 hcall
            have hlj' : Hid ((aL D ((j : Int) + 1)).length = lj) := hlj
            generalize hsj : sA D j = sj at *
            clear hjn hj64 hj1 hj2 hlj hsj
            go_wp2_with (go_at_call 7; refine hcall.mono ?_; rintro e w30 ⟨a30, c30, rfl, hr, hb⟩; have HB30 : Hid (Below w.heap.size w w30) := HQ.out.trans (hb.mono HQ.out.size); clear hr hb)
            go_roundw
            case rel => exact ⟨j + 1, by simp, by rw [hsu.out, hlj'.out]; simp, hj'.out.1, hj'.out.2, HB30⟩
            case measure => have := hj'.out; simp [intOf]; omega
          · have q2 : ¬ ((j : Int) + 1 ≤ 64) := by omega
            have q3 : (64 : Int) < (n : Int) := by omega
            clear hjn hj64 hj1 hj2 hsb
            go_wp2_with fail
            go_ret
            exact ⟨rfl, HQ.out⟩
        · have ej : j = n := by omega
          subst ej
          have q1 : ¬ ((j : Int) + 1 ≤ (j : Int)) := by omega
          have q3 : ¬ (64 : Int) < (j : Int) := by omega
          have hfin : Hid (sA D j = sO D) := by
            have h := sums D
            rw [hDl.out] at h
            exact h
          clear hjn hj1 hj2
          go_wp2_with fail
          go_loopw [10, 13] (fun ov ivv wq => ∃ i : Nat, ivv = .int .i64 (i : Int) ∧ ov = .int .i64 (sO (D.take i) : Int) ∧ i ≤ j ∧ Hid (Below w.heap.size w wq)) (fun _ ivv _ => j - (intOf ivv).toNat)
          case atStart => exact ⟨0, rfl, by simp [sO], Nat.zero_le _, HQ⟩
          case round =>
            obtain ⟨i, rfl, rfl, hi, HR⟩ := hrel
            have i0 : (0 : Int) ≤ (i : Int) := Int.natCast_nonneg _
            have hob := hsO i
            have o0 : (0 : Int) ≤ (sO (D.take i) : Int) := Int.natCast_nonneg _
            by_cases hij : i < j
            · have q4 : (i : Int) < (j : Int) := by omega
              obtain ⟨y, b2, o2, hsa, hc2, hof, hyl, hsu⟩ := (hElem wr).out HR.out i hij
              cases hsa
              have hij' : Hid (i < j) := hij
              have hyl' : Hid (sO (D.take (i + 1)) = sO (D.take i) + (setOf y.2.2).length) := hsu
              have y0 : (0 : Int) ≤ ((setOf y.2.2).length : Int) := Int.natCast_nonneg _
              obtain ⟨ya, yc, yl⟩ := y
              simp only [hv] at hc2
              dsimp only at hof hyl y0 hyl'
              generalize hlo : (setOf yl).length = lo at *
              generalize hso : sO (D.take i) = so at *
              clear hij hi hsu hlo hso
              go_wp2_with (go_at_call 11; refine hof.mono ?_; rintro e w31 ⟨v31, rfl, hv31, hb⟩; obtain ⟨a31, c31, rfl⟩ := hv31; have HB31 : Hid (Below w.heap.size w w31) := HR.out.trans (hb.mono HR.out.size); clear hb)
              go_roundw
              case rel => exact ⟨i + 1, by simp, by rw [hyl'.out]; simp, hij'.out, HB31⟩
              case measure => have := hij'.out; simp [intOf]; omega
            · have ei : i = j := by omega
              subst ei
              have q4 : ¬ (i : Int) < (i : Int) := by omega
              have heq : ((sO (D.take i) : Int) == (sA D i : Int)) = true := by
                have h := hfin.out
                have h2 : sO (D.take i) = sO D := by rw [List.take_of_length_le (Nat.le_of_eq hDl.out)]
                rw [h2, ← h]
                simp
              clear hij hi hfin
              go_wp2_with fail
              go_ret
              exact ⟨rfl, HR.out⟩
    · clear hk hSn hA2 hAl2 hX hxl
      go_wp2_with (first
        | (refine (Hid.out HB6 |> fun _ => ?_); go_at_call 7; refine ((hA w6).out HB6.out ((n : Int) + 1)).mono ?_; rintro e w7 ⟨a7, c7, rfl, hr, hb⟩; have HB7 : Hid (Below w.heap.size w w7) := HB6.out.trans (hb.mono HB6.out.size); rw [hN1.out, List.length_nil]; have hcx := hcl.out w7 HB7.out; clear hr hb)
        | (refine (Hid.out HB5 |> fun _ => ?_); go_at_call 8; refine (same_yes (aL D (n : Int)) (aL D (n : Int)) a4 a5 c4 c5 w5 K4b.out K5.out rfl).mono ?_; rintro e w6 ⟨rfl, hb⟩; have HB6 : Hid (Below w.heap.size w w6) := HB5.out.trans (hb.mono HB5.out.size); clear hb)
        | (refine (Hid.out HB4 |> fun _ => ?_); go_at_call 10; refine ((hM w4).out HB4.out).mono ?_; rintro e w5 ⟨a5, c5, rfl, hr, hb⟩; have HB5 : Hid (Below w.heap.size w w5) := HB4.out.trans (hb.mono HB4.out.size); have K5 : Hid (Rd w5 a5 c5 (aL D (n : Int))) := hr; have K4b : Hid (Rd w5 a4 c4 (aL D (n : Int))) := K4.out.below hb; clear hr hb)
        | (refine (Hid.out HB3 |> fun _ => ?_); go_at_call 7; refine ((hA w3).out HB3.out (n : Int)).mono ?_; rintro e w4 ⟨a4, c4, rfl, hr, hb⟩; have HB4 : Hid (Below w.heap.size w w4) := HB3.out.trans (hb.mono HB3.out.size); have K4 : Hid (Rd w4 a4 c4 (aL D (n : Int))) := hr; clear hr hb)
        | (refine (Hid.out HB2 |> fun _ => ?_); go_at_call 8; refine (same_yes (aL D 1) (aL D 1) a1 a2 c1 c2 w2 K1b.out K2.out rfl).mono ?_; rintro e w3 ⟨rfl, hb⟩; have HB3 : Hid (Below w.heap.size w w3) := HB2.out.trans (hb.mono HB2.out.size); clear hb)
        | (refine (Hid.out HB1 |> fun _ => ?_); go_at_call 9; refine ((hU w1).out HB1.out).mono ?_; rintro e w2 ⟨a2, c2, rfl, hr, hb⟩; have HB2 : Hid (Below w.heap.size w w2) := HB1.out.trans (hb.mono HB1.out.size); have K2 : Hid (Rd w2 a2 c2 (aL D 1)) := hr; have K1b : Hid (Rd w2 a1 c1 (aL D 1)) := K1.out.below hb; clear hr hb)
        | (refine (Hid.out HB0 |> fun _ => ?_); go_at_call 7; refine ((hA w).out HB0.out 1).mono ?_; rintro e w1 ⟨a1, c1, rfl, hr, hb⟩; have HB1 : Hid (Below w.heap.size w w1) := HB0.out.trans (hb.mono HB0.out.size); have K1 : Hid (Rd w1 a1 c1 (aL D 1)) := hr; clear hr hb))
      go_loopw [11, 12] (fun av ivv wr => ∃ j : Nat, ivv = .int .i64 ((j : Int) + 1) ∧ av = .int .i64 (sA D j : Int) ∧ j ≤ n ∧ j ≤ 64 ∧ Hid (Below w.heap.size w wr)) (fun _ ivv _ => n + 1 - (intOf ivv).toNat)
      case atStart => exact ⟨0, rfl, by simp [sA], Nat.zero_le _, Nat.zero_le _, HB7⟩
      case round =>
        obtain ⟨j, rfl, rfl, hj1, hj2, HQ⟩ := hrel
        have j0 : (0 : Int) ≤ (j : Int) := Int.natCast_nonneg _
        have hsb := hsA j hj2
        by_cases hjn : j < n
        · have q1 : ((j : Int) + 1 ≤ (n : Int)) := by omega
          by_cases hj64 : j < 64
          · have q2 : ((j : Int) + 1 ≤ 64) := by omega
            have hj' : Hid (j < n ∧ j < 64) := ⟨hjn, hj64⟩
            have hsu : Hid (sA D (j + 1) = sA D j + (aL D ((j : Int) + 1)).length) := sA_succ D j
            have hal := hAl ((j : Int) + 1)
            have s0 : (0 : Int) ≤ (sA D j : Int) := Int.natCast_nonneg _
            have l0 : (0 : Int) ≤ ((aL D ((j : Int) + 1)).length : Int) := Int.natCast_nonneg _
            have hcall := (hA wr).out HQ.out ((j : Int) + 1)
            obtain ⟨lj, hlj⟩ : ∃ lj, (aL D ((j : Int) + 1)).length = lj := ⟨_, rfl⟩
            rw [hlj] at hal l0 hcall
            have hlj' : Hid ((aL D ((j : Int) + 1)).length = lj) := hlj
            generalize hsj : sA D j = sj at *
            clear hjn hj64 hj1 hj2 hlj hsj
            go_wp2_with (go_at_call 7; refine hcall.mono ?_; rintro e w30 ⟨a30, c30, rfl, hr, hb⟩; have HB30 : Hid (Below w.heap.size w w30) := HQ.out.trans (hb.mono HQ.out.size); clear hr hb)
            go_roundw
            case rel => exact ⟨j + 1, by simp, by rw [hsu.out, hlj'.out]; simp, hj'.out.1, hj'.out.2, HB30⟩
            case measure => have := hj'.out; simp [intOf]; omega
          · have q2 : ¬ ((j : Int) + 1 ≤ 64) := by omega
            have q3 : (64 : Int) < (n : Int) := by omega
            clear hjn hj64 hj1 hj2 hsb
            go_wp2_with fail
            go_ret
            exact ⟨rfl, HQ.out⟩
        · have ej : j = n := by omega
          subst ej
          have q1 : ¬ ((j : Int) + 1 ≤ (j : Int)) := by omega
          have q3 : ¬ (64 : Int) < (j : Int) := by omega
          have hfin : Hid (sA D j = sO D) := by
            have h := sums D
            rw [hDl.out] at h
            exact h
          clear hjn hj1 hj2
          go_wp2_with fail
          go_loopw [10, 13] (fun ov ivv wq => ∃ i : Nat, ivv = .int .i64 (i : Int) ∧ ov = .int .i64 (sO (D.take i) : Int) ∧ i ≤ j ∧ Hid (Below w.heap.size w wq)) (fun _ ivv _ => j - (intOf ivv).toNat)
          case atStart => exact ⟨0, rfl, by simp [sO], Nat.zero_le _, HQ⟩
          case round =>
            obtain ⟨i, rfl, rfl, hi, HR⟩ := hrel
            have i0 : (0 : Int) ≤ (i : Int) := Int.natCast_nonneg _
            have hob := hsO i
            have o0 : (0 : Int) ≤ (sO (D.take i) : Int) := Int.natCast_nonneg _
            by_cases hij : i < j
            · have q4 : (i : Int) < (j : Int) := by omega
              obtain ⟨y, b2, o2, hsa, hc2, hof, hyl, hsu⟩ := (hElem wr).out HR.out i hij
              cases hsa
              have hij' : Hid (i < j) := hij
              have hyl' : Hid (sO (D.take (i + 1)) = sO (D.take i) + (setOf y.2.2).length) := hsu
              have y0 : (0 : Int) ≤ ((setOf y.2.2).length : Int) := Int.natCast_nonneg _
              obtain ⟨ya, yc, yl⟩ := y
              simp only [hv] at hc2
              dsimp only at hof hyl y0 hyl'
              generalize hlo : (setOf yl).length = lo at *
              generalize hso : sO (D.take i) = so at *
              clear hij hi hsu hlo hso
              go_wp2_with (go_at_call 11; refine hof.mono ?_; rintro e w31 ⟨v31, rfl, hv31, hb⟩; obtain ⟨a31, c31, rfl⟩ := hv31; have HB31 : Hid (Below w.heap.size w w31) := HR.out.trans (hb.mono HR.out.size); clear hb)
              go_roundw
              case rel => exact ⟨i + 1, by simp, by rw [hyl'.out]; simp, hij'.out, HB31⟩
              case measure => have := hij'.out; simp [intOf]; omega
            · have ei : i = j := by omega
              subst ei
              have q4 : ¬ (i : Int) < (i : Int) := by omega
              have heq : ((sO (D.take i) : Int) == (sA D i : Int)) = true := by
                have h := hfin.out
                have h2 : sO (D.take i) = sO D := by rw [List.take_of_length_le (Nat.le_of_eq hDl.out)]
                rw [h2, ← h]
                simp
              clear hij hi hfin
              go_wp2_with fail
              go_ret
              exact ⟨rfl, HR.out⟩
theorem counts_walk (sa : Option Addr) (sc : Nat) (Ss : List Hd) (k : Int) (w : World) (h1 : SRow w sa Ss) (h2 : ∀ x ∈ Ss, Rd w x.1 x.2.1 x.2.2) (hc : Ss.length ≤ sc) (hm : sc ≤ maxLen) (ht : tot (lsts Ss) + Ss.length ≤ 1048576) (hk : -9223372036854775808 ≤ k ∧ k ≤ 9223372036854775807) :
    Calls Try.prog 3 #[.slice sa Ss.length sc, .int .i64 k] w fun e w' => e = .returned (.bool true) ∧ Below w.heap.size w w' := by
  rcases List.eq_nil_or_concat Ss with e | ⟨A, x, e⟩
  · subst e
    exact counts_none sa sc k w ⟨h1, h2, ht⟩
  · rw [List.concat_eq_append] at e
    subst e
    exact counts_some sa sc A x k w ⟨h1, h2, ht⟩ hc
theorem wf64 {v : Int} (h : (Lit.int .i64 v).wf = true) : -9223372036854775808 ≤ v ∧ v ≤ 9223372036854775807 := by
  have h' : (decide (IntKind.i64.min ≤ v) && decide (v ≤ IntKind.i64.max)) = true := h
  rw [Bool.and_eq_true] at h'
  have h1 := of_decide_eq_true h'.1
  have h2 := of_decide_eq_true h'.2
  have e1 : IntKind.i64.min = -9223372036854775808 := by decide
  have e2 : IntKind.i64.max = 9223372036854775807 := by decide
  omega
end Go.Proofs.Ytmkmfnbjmakebaa
