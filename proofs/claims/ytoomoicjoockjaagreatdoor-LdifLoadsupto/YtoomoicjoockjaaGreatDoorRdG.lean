import Derived.Test.YtoomoicjoockjaaGreatDoorRdF
namespace Go.Proofs.YtoomoicjoockjaaGreatDoor
namespace Rd
open Go.RowKit Go.Shelf
open LdMath
open GSeM (SeqM StM)
open Lr (PR RC pf chg okD dnB ChgTab GOwn GRow pV pV_len Kd PX RX rV rV_len append_gen)
attribute [local go_sem] Oper.semAt_some
set_option linter.unusedVariables false
set_option maxRecDepth 100000

theorem wtab_lt {w : World} (h : WTab w) : 2 < w.heap.size := World.block_lt_of_cell? w _ (h 0 (by omega))
theorem ctab_lt {w : World} (h : ChgTab w) : 1 < w.heap.size := World.block_lt_of_cell? w _ h.1
theorem els_zero {R : List Rc × Nat × Nat} (h : R.2.1 = 0) : els R = R.1.map rsx := by unfold els; rw [if_pos h, List.append_nil]
theorem els_bad {R : List Rc × Nat × Nat} (h : R.2.1 ≠ 0) : els R = R.1.map rsx ++ [((0, [], []), R.2)] := by unfold els; rw [if_neg h]
theorem rdT_bad {b : List UInt8} {e n : Nat} (h : ferr [] (phys b) = some (e, n)) : rdT b = ([], e, n) := by unfold rdT; rw [h]
theorem rdT_ok {b : List UInt8} (h : ferr [] (phys b) = none) : rdT b = rdL ((phys b).length + 1) st0 (joinS (phys b)) := by unfold rdT; rw [h]
theorem ferr_val : ∀ (l : List (Nat × List UInt8)) (a : List UInt8) (p : Nat × Nat), ferr a l = some p → p.1 = 70 ∨ p.1 = 71
  | [], _, _, h => by cases h
  | x :: l, a, p, h => by
    unfold ferr at h
    cases hf : flt a x.2 with
    | none => rw [hf] at h; exact ferr_val l x.2 p h
    | some e =>
      rw [hf] at h
      injection h with h
      subst h
      unfold flt at hf
      split at hf
      · injection hf with hf; exact .inl hf.symm
      · split at hf
        · injection hf with hf; exact .inr hf.symm
        · cases hf

/-- Faults have numbers. -/
theorem val_nz : ∀ (e : Nat) (ls : List (Nat × List UInt8)) (st : St), (rdL e st ls).2.1 = 0 → (rdL e st ls).2.2 = 0
  | e, [], st => by
    rw [rd_end]
    unfold fin
    repeat' split
    all_goals simp
  | e, (n, t) :: ls, st => by
    rw [rdL]
    split
    · exact val_nz e ls st
    · split
      · split
        · exact val_nz e ls _
        · intro h; exact absurd h (by assumption)
      · split
        · unfold fin
          repeat' split
          all_goals simp
        · split
          · exact val_nz e ls _
          · exact val_nz e ls st
theorem yield_at {m m' : Nat} {P : Program} {l : Nat} {args : Array Value} {W : World} {R : Ending → World → Prop} (h : YieldAt Fence.wide m P l args W R) : YieldAt Fence.wide m' P l args W R := by
  obtain ⟨fn, tmps, assign, body, hy, hR⟩ := h
  exact ⟨fn, tmps, assign, body, hy, hR.1, fun c cs _ => hR.2 c cs (room_wide _)⟩
set_option maxRecDepth 1000000 in
set_option maxHeartbeats 8000000 in
theorem read_seq (nf : Nat) (hnf : 2 ≤ nf) (s : ByteArray) (hs : s.size ≤ 4194304) (sb : Nat) (w : World) (hsb : w.heap[sb]? = some (.cells #[.string s] 9 (0, 0))) (hWt : WTab w) (hCt : ChgTab w) :
    SeqM Fence.wide nf Tryz.prog 11 #[.pointer (some ⟨sb, 0, none⟩)] encX GX (Mv w.heap.size) Kp (fun xs => xs.map sy = els (rdT s.data.toList)) (fun pre => pre.map sy <+: els (rdT s.data.toList)) 4194310 w := fun l J Jx W hW hJ hJx hY h0 => by
  obtain ⟨B0, hB0⟩ : ∃ B0, w.heap.size = B0 := ⟨_, rfl⟩
  have hG : 2 < B0 ∧ 1 < B0 := by rw [← hB0]; exact ⟨wtab_lt hWt, ctab_lt hCt⟩
  have hBW : B0 ≤ W.heap.size := by rw [← hB0]; exact hW.size
  have hbW : W.heap[sb]? = some (.cells #[.string s] 9 (0, 0)) := (hW.block sb (Array.getElem?_eq_some_iff.1 hsb).1).trans hsb
  have hWW : WTab W := hWt.below hW
  have hCW : ChgTab W := hCt.below hW
  rw [hB0] at hJ hJx hY
  have cS := row1 hbW
  have hU : Hid (Calls Tryz.prog 12 #[.string s] W fun e w' => ∃ v er ln, e = .returned (.tuple #[v, .agg #[.int .i64 ((er : Nat) : Int), .int .i64 ((ln : Nat) : Int)]]) ∧ UnfIs s.data.toList W.heap.size w' v er ln ∧ Below W.heap.size W w') := unfold_any s hs W
  have hYh : Hid (∀ pre x W0 W1, J pre W0 → Mv B0 W0 W1 → GX x W0.heap.size W1 → (pre ++ [x]).map sy <+: els (rdT s.data.toList) → pre.length < 4194310 → YieldAt Fence.wide (nf - 1) Tryz.prog l (encX x) W1 fun r W' => Kp W1 W' ∧ ((r = .returned (.bool true) ∧ J (pre ++ [x]) W') ∨ (r = .returned (.bool false) ∧ Jx (pre ++ [x]) W'))) := hY
  have hJJ : Hid (StM (Mv B0) J ∧ StM (Mv B0) Jx ∧ J [] W ∧ B0 ≤ W.heap.size) := ⟨hJ, hJx, h0, hBW⟩
  have hnf1 : 1 ≤ nf := by omega
  have hnf2 : 1 ≤ nf - 1 := by omega
  cases hf : ferr [] (phys s.data.toList) with
  | some p =>
    obtain ⟨er, ln⟩ := p
    have hR := rdT_bad hf
    have her : er ≠ 0 := by have := ferr_val _ _ _ hf; simp only at this; omega
    have hU' : Hid (Calls Tryz.prog 12 #[.string s] W fun e w' => e = .returned (.tuple #[.slice none 0 0, .agg #[.int .i64 (er : Int), .int .i64 (ln : Int)]]) ∧ Below W.heap.size W w') := by
      refine hU.out.mono ?_
      rintro e w' ⟨v, er', ln', rfl, h1, h2⟩
      unfold UnfIs UnfP at h1
      rw [hf] at h1
      obtain ⟨rfl, rfl, rfl⟩ := h1
      exact ⟨rfl, h2⟩
    have e1 : (((er : Nat) : Int) == 0) = false := by simp only [beq_eq_false_iff_ne, ne_eq]; omega
    have e2 : (((er : Nat) : Int) != 0) = true := by simp only [bne_iff_ne, ne_eq]; omega
    have hYx : Hid (∀ W1, Below W.heap.size W W1 → ∃ fn tmps assign body, (Instr.yield l #[.agg #[.int .i64 0, .string ⟨#[]⟩, .slice none 0 0], .agg #[.int .i64 (er : Int), .int .i64 (ln : Int)]]).run Tryz.prog W1 = .ok (.round l fn tmps assign body) W1 ∧ RoundIn Fence.wide (nf - 1) Tryz.prog l fn tmps assign body W1 (fun r W' => (∃ b, r = .returned (.bool b)) ∧ ((∃ xs, xs.map sy = els (rdT s.data.toList) ∧ J xs W') ∨ (∃ pre, pre.map sy <+: els (rdT s.data.toList) ∧ Jx pre W')))) := fun W1 hb => by
      have hE : els (rdT s.data.toList) = [((0, [], []), er, ln)] := by rw [hR, els_bad her]; rfl
      obtain ⟨fn, tmps, assign, body, hy, hRd⟩ := hYh.out [] ((0, [], none, 0, []), er, ln) W W1 hJJ.out.2.2.1 ((Mv.refl _ _).below hb) (GOwn.nil _ _ _ _ _) (by rw [hE]; exact List.prefix_refl _) (by decide)
      refine ⟨fn, tmps, assign, body, hy, hRd.mono ?_⟩
      rintro r W3 ⟨hk, (⟨rfl, h⟩ | ⟨rfl, h⟩)⟩
      · exact ⟨⟨_, rfl⟩, .inl ⟨_, by rw [hE]; rfl, h⟩⟩
      · exact ⟨⟨_, rfl⟩, .inr ⟨_, by rw [hE]; exact List.prefix_refl _, h⟩⟩
    clear hY hJ hJx hU hYh hf hR hB0 hG hsb hWt hCt hW hWW hCW hbW her hs
    refine callsIn_of_wp Tryz.func11 rfl trivial ?_ rfl
    simp only [Tryz.ntmps11, List.size_toArray, List.length_cons, List.length_nil, Nat.reduceAdd, Nat.reduceSub, Array.replicate_succ, Array.replicate_zero, List.push_toArray, List.append_toArray, List.nil_append, List.cons_append]
    gi_wp2_with (refine ⟨trivial, ?_⟩; gi_at_call 12; refine (callsIn_wide.2 hU'.out).mono ?_; rintro e w1 ⟨rfl, hb1⟩; obtain ⟨fn, tmps, assign, body, hy, hRd⟩ := hYx.out (w1.alloc (.cells #[.int .i64 (er : Int), .int .i64 (ln : Int)] 36)) (hb1.alloc hb1.size _); clear hb1)
    refine hRd.mono ?_
    rintro r W3 ⟨⟨b, rfl⟩, h3⟩
    have h3' : Hid _ := h3
    clear h3 hRd hy hYx
    gi_wp2
    go_end0
    exact ⟨⟨_, rfl⟩, h3'.out⟩
  | none =>
    have hR := rdT_ok hf
    obtain ⟨L, hLe⟩ : ∃ L, joinS (phys s.data.toList) = L := ⟨_, rfl⟩
    obtain ⟨E, hEe⟩ : ∃ E, (phys s.data.toList).length + 1 = E := ⟨_, rfl⟩
    have hLn : L.length ≤ 4194305 := by
      have h1 := (joinS_sizes (phys s.data.toList)).1
      have h2 := phys_len s.data.toList
      rw [size_l] at h2
      rw [← hLe]
      omega
    have hLt : ∀ p ∈ L, p.2.length ≤ 4194304 := fun p hp => by
      rw [← hLe] at hp
      have h1 := (joinS_sizes (phys s.data.toList)).2 p hp
      have h2 := phys_tot s.data.toList
      rw [size_l] at h2
      omega
    have hEn : ∀ W', Hid (Calls Tryz.prog 14 #[.string s] W' fun e w' => e = .returned (.int .i64 (E : Int)) ∧ Below W'.heap.size W' w') := fun W' => by
      have := endOf_any s hs W'
      rw [hEe] at this
      exact this
    have hE6 : E ≤ 4194306 := by
      have h2 := phys_len s.data.toList
      rw [size_l] at h2
      omega
    rw [hLe, hEe] at hR
    obtain ⟨n, hn⟩ : ∃ n, L.length = n := ⟨_, rfl⟩
    have hU' : Hid (Calls Tryz.prog 12 #[.string s] W fun e w' => ∃ a c, e = .returned (.tuple #[.slice a n c, .agg #[.int .i64 0, .int .i64 0]]) ∧ LRow w' a L ∧ Below W.heap.size W w') := by
      refine hU.out.mono ?_
      rintro e w' ⟨v, er', ln', rfl, h1, h2⟩
      unfold UnfIs UnfP at h1
      rw [hf] at h1
      obtain ⟨h1, rfl, rfl⟩ := h1
      rw [hLe] at h1
      obtain ⟨a, c, rfl, h3⟩ := LRow.of_own h1
      rw [hn]
      exact ⟨a, c, rfl, h3, h2⟩
    have hK : Hid ((2 < B0 ∧ 1 < B0) ∧ W.heap[sb]? = some (.cells #[.string s] 9 (0, 0)) ∧ WTab W ∧ ChgTab W ∧ L.length = n ∧ n ≤ 4194305 ∧ (∀ p ∈ L, p.2.length ≤ 4194304) ∧ E ≤ 4194306 ∧ rdT s.data.toList = rdL E st0 L) := ⟨hG, hbW, hWW, hCW, hn, by omega, hLt, hE6, hR⟩
    clear hY hJ hJx hU hf hR hB0 hG hsb hWt hCt hW hWW hCW hbW hs hLe hEe hLn hLt hE6 hn hBW h0
    refine callsIn_of_wp Tryz.func11 rfl trivial ?_ rfl
    simp only [Tryz.ntmps11, List.size_toArray, List.length_cons, List.length_nil, Nat.reduceAdd, Nat.reduceSub, Array.replicate_succ, Array.replicate_zero, List.push_toArray, List.append_toArray, List.nil_append, List.cons_append]
    gi_wp2_with (first
      | (refine ⟨trivial, ?_⟩; gi_at_call 12; refine (callsIn_wide.2 hU'.out).mono ?_; rintro e w1 ⟨a, c, rfl, hL1, hb1⟩; have hA : Hid (LRow w1 a L ∧ Below W.heap.size W w1) := ⟨hL1, hb1⟩; have hb2 : Below w1.heap.size w1 (w1.alloc (.cells #[.int .i64 0, .int .i64 0] 36)) := (Below.refl _ _).alloc (Nat.le_refl _) _; have hbs : (w1.alloc (.cells #[.int .i64 0, .int .i64 0] 36)).heap[sb]? = some (.cells #[.string s] 9 (0, 0)) := (((hb1.trans (hb2.mono hb1.size)).block sb (Array.getElem?_eq_some_iff.1 hK.out.2.1).1).trans hK.out.2.1); have cS2 := row1 hbs; have hf2 : (w1.alloc (.cells #[.int .i64 0, .int .i64 0] 36)).heap[w1.heap.size]? = some (.cells #[.int .i64 0, .int .i64 0] 36 (0, 0)) := heap_alloc_last w1 _; have hB : Hid (Below w1.heap.size w1 (w1.alloc (.cells #[.int .i64 0, .int .i64 0] 36)) ∧ (w1.alloc (.cells #[.int .i64 0, .int .i64 0] 36)).heap[w1.heap.size]? = some (.cells #[.int .i64 0, .int .i64 0] 36 (0, 0))) := ⟨hb2, hf2⟩; clear hL1 hb1 hb2 hbs hf2)
      | (refine ⟨trivial, ?_⟩; gi_at_call 14; refine (callsIn_wide.2 (hEn _).out).mono ?_; rintro e w3 ⟨rfl, hb3⟩; have hC : Hid (Below (w1.alloc (.cells #[.int .i64 0, .int .i64 0] 36)).heap.size (w1.alloc (.cells #[.int .i64 0, .int .i64 0] 36)) w3) := hb3; clear hb3)
      | (refine ⟨trivial, ?_⟩; gi_at_call 13; refine Hid.out (p := _) ?_))
    obtain ⟨a1, a2⟩ := hA.out
    obtain ⟨b1, b2⟩ := hB.out
    have c1 := hC.out
    obtain ⟨k1, k2, k3, k4, k5, k6, k7, k8, k9⟩ := hK.out
    have hb13 : Below w1.heap.size w1 w3 := b1.trans (c1.mono b1.size)
    have hbW3 : Below W.heap.size W w3 := a2.trans (hb13.mono a2.size)
    have hL3 : LRow w3 a L := LRow.same a1 (fun g cur hg => (hb13.block _ (Array.getElem?_eq_some_iff.1 hg).1).trans hg)
    have hf3 : w3.heap[w1.heap.size]? = some (.cells #[.int .i64 0, .int .i64 0] 36 (0, 0)) := (c1.block _ (Array.getElem?_eq_some_iff.1 b2).1).trans b2
    refine (readLines_any (nf - 1) hnf2 l B0 E J Jx a c n L w3 W k5 k6 k7 k8 hL3 (k3.below hbW3) (k4.below hbW3) k1 (Nat.le_trans hJJ.out.2.2.2 hbW3.size) hJJ.out.2.2.1 ((Mv.refl _ _).below hbW3) (fun pre x W0 W1 h1 h2 h3 h4 h5 => yield_at (hYh.out pre x W0 W1 h1 h2 h3 (by rw [k9]; exact h4) h5))).mono ?_
    have hB1 : Hid (B0 ≤ w1.heap.size) := Nat.le_trans hJJ.out.2.2.2 a2.size
    obtain ⟨fb, hfb⟩ : ∃ fb, w1.heap.size = fb := ⟨_, rfl⟩
    rw [hfb] at hf3 hB1
    have hK9 : Hid (rdT s.data.toList = rdL E st0 L) := k9
    clear a1 a2 b1 b2 c1 k1 k2 k3 k4 k5 k6 k7 k8 k9 hb13 hbW3 hL3 hA hB hC hU' hEn hK
    rintro r w4 ⟨hfk, hq⟩
    have hf4 := hfk _ _ hf3
    have g0 : w4.cell? ⟨fb, 0, none⟩ = some (.int .i64 0) := by rw [cell_of_row _ _ _ _ _ _ hf4]; rfl
    have g1 : w4.cell? ⟨fb, 1, none⟩ = some (.int .i64 0) := by rw [cell_of_row _ _ _ _ _ _ hf4]; rfl
    have q0 := Go.frozen_of_row w4 fb 0 _ _ hf4
    have q1 := Go.frozen_of_row w4 fb 1 _ _ hf4
    rw [hfb]
    have hf4' : Hid (w4.heap[fb]? = some (.cells #[.int .i64 0, .int .i64 0] 36 (0, 0))) := hf4
    clear hfk hf3 hf4 cS2 hfb
    rcases hq with ⟨xs, W0, x1, x2, x3, x4, rfl⟩ | ⟨pre, W0, x1, x3, x4, rfl⟩
    · by_cases her : (rdL E st0 L).2.1 = 0
      · have hln := val_nz E L st0 her
        have hfin : Hid ((∃ xs, xs.map sy = els (rdT s.data.toList) ∧ J xs ((w4.setCell ⟨fb, 0, none⟩ (.int .i64 0)).setCell ⟨fb, 1, none⟩ (.int .i64 0))) ∨ (∃ pre, pre.map sy <+: els (rdT s.data.toList) ∧ Jx pre ((w4.setCell ⟨fb, 0, none⟩ (.int .i64 0)).setCell ⟨fb, 1, none⟩ (.int .i64 0)))) :=
          .inl ⟨xs, by rw [hK9.out, els_zero her]; exact x1, hJJ.out.1 _ _ _ x3 (fault_mv x4 hf4'.out hB1.out _ _)⟩
        rw [her, hln]
        clear x1 x2 x3 x4 her hln
        gi_wp2
        go_end0
        exact ⟨⟨_, rfl⟩, hfin.out⟩
      · obtain ⟨er, hre⟩ : ∃ er, (rdL E st0 L).2.1 = er := ⟨_, rfl⟩
        obtain ⟨ln, hrl⟩ : ∃ ln, (rdL E st0 L).2.2 = ln := ⟨_, rfl⟩
        have hE : els (rdT s.data.toList) = (xs ++ [((0, [], none, 0, []), er, ln)]).map sy := by
          rw [hK9.out, els_bad her, ← x1, List.map_append, ← hre, ← hrl]
          rfl
        obtain ⟨w5, hw5⟩ : ∃ w5, (w4.setCell ⟨fb, 0, none⟩ (.int .i64 (er : Int))).setCell ⟨fb, 1, none⟩ (.int .i64 (ln : Int)) = w5 := ⟨_, rfl⟩
        have hf5 : w5.heap[fb]? = some (.cells #[.int .i64 (er : Int), .int .i64 (ln : Int)] 36 (0, 0)) := by rw [← hw5]; exact fault_set hf4'.out _ _
        have e0 : w5.cell? ⟨fb, 0, none⟩ = some (.int .i64 (er : Int)) := by rw [cell_of_row _ _ _ _ _ _ hf5]; rfl
        have e1 : w5.cell? ⟨fb, 1, none⟩ = some (.int .i64 (ln : Int)) := by rw [cell_of_row _ _ _ _ _ _ hf5]; rfl
        have m5 : Mv B0 W0 w5 := by rw [← hw5]; exact fault_mv x4 hf4'.out hB1.out _ _
        obtain ⟨fn, tmps, assign, body, hy, hRd⟩ := hYh.out xs ((0, [], none, 0, []), er, ln) W0 w5 x3 m5 (GOwn.nil _ _ _ _ _) (by rw [hE]; exact List.prefix_refl _) (by omega)
        change (Instr.yield l #[.agg #[.int .i64 0, .string ⟨#[]⟩, .slice none 0 0], .agg #[.int .i64 (er : Int), .int .i64 (ln : Int)]]).run Tryz.prog w5 = _ at hy
        rw [hre] at her
        have e2 : (((er : Nat) : Int) != 0) = true := by simp only [bne_iff_ne, ne_eq]; omega
        have hE' : Hid (els (rdT s.data.toList) = (xs ++ [((0, [], none, 0, []), er, ln)]).map sy) := hE
        rw [hre, hrl]
        clear x1 x2 x3 x4 her hre hrl hE hf5 m5
        gi_wp2
        refine hRd.mono ?_
        rintro r W3 ⟨hk, hj3⟩
        have hfin : Hid ((∃ xs, xs.map sy = els (rdT s.data.toList) ∧ J xs W3) ∨ (∃ pre, pre.map sy <+: els (rdT s.data.toList) ∧ Jx pre W3)) := by
          rcases hj3 with ⟨_, h⟩ | ⟨_, h⟩
          · exact .inl ⟨_, hE'.out.symm, h⟩
          · exact .inr ⟨_, by rw [hE'.out]; exact List.prefix_refl _, h⟩
        have hr : ∃ b, r = .returned (.bool b) := by
          rcases hj3 with h | h
          · exact ⟨_, h.1⟩
          · exact ⟨_, h.1⟩
        obtain ⟨b, rfl⟩ := hr
        clear hk hj3 hRd hy
        gi_wp2
        go_end0
        exact ⟨⟨_, rfl⟩, hfin.out⟩
    · have hfin : Hid ((∃ xs, xs.map sy = els (rdT s.data.toList) ∧ J xs ((w4.setCell ⟨fb, 0, none⟩ (.int .i64 0)).setCell ⟨fb, 1, none⟩ (.int .i64 0))) ∨ (∃ pre, pre.map sy <+: els (rdT s.data.toList) ∧ Jx pre ((w4.setCell ⟨fb, 0, none⟩ (.int .i64 0)).setCell ⟨fb, 1, none⟩ (.int .i64 0)))) :=
        .inr ⟨pre, by rw [hK9.out]; exact x1, hJJ.out.2.1 _ _ _ x3 (fault_mv x4 hf4'.out hB1.out _ _)⟩
      clear x1 x3 x4
      gi_wp2
      go_end0
      exact ⟨⟨_, rfl⟩, hfin.out⟩
end Rd
end Go.Proofs.YtoomoicjoockjaaGreatDoor
