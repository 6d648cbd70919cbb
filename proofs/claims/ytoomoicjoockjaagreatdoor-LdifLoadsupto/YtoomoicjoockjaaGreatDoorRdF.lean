import Derived.Test.YtoomoicjoockjaaGreatDoorRdE
import Derived.WalkMore
namespace Go.Proofs.YtoomoicjoockjaaGreatDoor
namespace Rd
open Go.RowKit Go.Shelf
open LdMath
open GSeM (SeqM StM)
open Lr (PR RC pf chg okD dnB ChgTab GOwn GRow pV pV_len Kd PX RX rV rV_len append_gen)
attribute [local go_sem] Oper.semAt_some
set_option linter.unusedVariables false
set_option maxRecDepth 100000

theorem stepR_scope {P : Program} {b : Frame} {a : Act} {k : List Item} {cs : List Frame} {w : World} {c : Code} : step P (lone (b.atR a (.code (.scope c) :: k)) cs w) = .next (lone (b.atR a (.code c :: .inScope c :: k)) cs w) :=
  step_lone_go (by simp [stepG, stepG.exec, Frame.atR])
theorem stepR_inScope {P : Program} {b : Frame} {a : Act} {k : List Item} {cs : List Frame} {w : World} {c : Code} : step P (lone (b.atR a (.inScope c :: k)) cs w) = .next (lone (b.atR a k) cs w) :=
  step_lone_go (by simp [stepG, stepG.exec, Frame.atR])
/-- A scope in which nothing jumps. -/
theorem wpIn_scope {F : Fence} {n : Nat} {P : Program} {Q : Exit → Act → World → Prop} {a : Act} {w : World} {c : Code} (h : c.wpIn F n P (Exit.noGoto Q) a w) : (Code.scope c).wpIn F n P Q a w := by
  intro b k cs hro hb hr
  have h0 : (lone (b.atR a (.code (.scope c) :: k)) cs w).fenced P F := fenced_calm hb hr rfl
  obtain ⟨e, a₁, w₁, hq, harr⟩ := h b (.inScope c :: k) cs hro hb hr
  cases e with
  | normal => exact ⟨.normal, a₁, w₁, hq, .head h0 stepR_scope (StepsIn.trans harr (.one (fenced_calm hb hr rfl) stepR_inScope))⟩
  | exit id =>
    have hx : exitTo id (.inScope c :: k) = exitTo id k := by simp [exitTo]
    exact ⟨.exit id, a₁, w₁, hq, fun k' hk => .head h0 stepR_scope (harr.1 k' (by rw [hx]; exact hk)),
      fun hr' hk => let ⟨k₁, h1, h2⟩ := harr.2 hr' (by rw [hx]; exact hk); ⟨k₁, h1, .head h0 stepR_scope h2⟩⟩
  | goto l => exact hq.elim
  | ret => exact ⟨_, a₁, w₁, hq, .of_steps (.one h0 stepR_scope) harr⟩
  | panic ch => exact ⟨_, a₁, w₁, hq, .of_steps (.one h0 stepR_scope) harr⟩
  | outgrown => exact ⟨_, a₁, w₁, hq, .of_steps (.one h0 stepR_scope) harr⟩
theorem els_cons (r : Rc) (R : List Rc × Nat × Nat) : els (r :: R.1, R.2) = rsx r :: els R := rfl
theorem drop_at (L : List (Nat × List UInt8)) (i : Nat) (h : i < L.length) : L.drop i = (L[i].1, L[i].2) :: L.drop (i + 1) := List.drop_eq_getElem_cons h
theorem rd_hash (e : Nat) (st : St) (n : Nat) (t : List UInt8) (ls : List (Nat × List UInt8)) (h : t.head? = some 35) : rdL e st ((n, t) :: ls) = rdL e st ls := by
  rw [rdL, if_pos h]
theorem rd_take (e : Nat) (st : St) (n : Nat) (t : List UInt8) (ls : List (Nat × List UInt8)) (h : ¬ t.head? = some 35) (hn : t ≠ []) : rdL e st ((n, t) :: ls) = if takeF st t = 0 then rdL e (takeS st n t) ls else ([], takeF st t, n) := by
  rw [rdL, if_neg h, if_pos hn]
theorem rd_blank (e : Nat) (st : St) (n : Nat) (ls : List (Nat × List UInt8)) : rdL e st ((n, []) :: ls) = if st.1 = 3 then fin e st else if st.1 = 4 then (st.2 :: (rdL e (2, st.2) ls).1, (rdL e (2, st.2) ls).2) else rdL e st ls := by
  rw [rdL, if_neg (by simp), if_neg (by simp)]
theorem rd_end (e : Nat) (st : St) : rdL e st [] = fin e st := rfl
/-- A struct of two, as a result that lies in a box. -/
theorem results_f {fn : Func} {q : Tmp} (h : fn.results = #[.cell q 36]) (tmps : Array Value) (w : World) (f : Nat) (a b : Value) (hq : tmps.getD q undef = .pointer (some ⟨f, 0, none⟩)) (hf : w.heap[f]? = some (.cells #[a, b] 36 (0, 0))) : (results fn tmps).run Tryz.prog w = .ok (.agg #[a, b]) w := by
  have h2 := run_loadVar_row (P := Tryz.prog) w f 36 36 #[a, b] (0, 0) _ hf Tryz.underlying36 rfl (by kernel_rfl)
  have hq' : tmps[q]?.getD undef = .pointer (some ⟨f, 0, none⟩) := by simpa using hq
  simp [results, h, hq', asAddr, h2]
theorem fault_set {w : World} {fb : Nat} {a b : Value} (h : w.heap[fb]? = some (.cells #[a, b] 36 (0, 0))) (x y : Value) : ((w.setCell ⟨fb, 0, none⟩ x).setCell ⟨fb, 1, none⟩ y).heap[fb]? = some (.cells #[x, y] 36 (0, 0)) := by
  have h1 := Go.heap_setCell_same w fb 0 _ _ x h
  have h2 := Go.heap_setCell_same _ fb 1 _ _ y h1
  exact h2
theorem fault_mv {B0 fb : Nat} {W0 w : World} {a b : Value} (hm : Mv B0 W0 w) (h : w.heap[fb]? = some (.cells #[a, b] 36 (0, 0))) (hB : B0 ≤ fb) (x y : Value) : Mv B0 W0 ((w.setCell ⟨fb, 0, none⟩ x).setCell ⟨fb, 1, none⟩ y) := by
  have h1 := Go.heap_setCell_same w fb 0 _ _ x h
  exact (hm.set x h ⟨_, .inr rfl⟩ hB).set y h1 ⟨_, .inr rfl⟩ hB
theorem FK.kp {ws w w' : World} (h : FK ws w) (hk : Kp w w') : FK ws w' := fun k cs hk' => hk.2.2 _ _ _ (.inr (.inr rfl)) (h k cs hk')
/-- What readLines leaves. -/
def RQ (ws : World) (B0 : Nat) (J Jx : List X → World → Prop) (R : List Rc × Nat × Nat) (r : Ending) (w' : World) : Prop := FK ws w' ∧
  ((∃ xs W0, xs.map sy = R.1.map rsx ∧ xs.length ≤ 4194306 ∧ J xs W0 ∧ Mv B0 W0 w' ∧ r = .returned (.agg #[.int .i64 (R.2.1 : Int), .int .i64 (R.2.2 : Int)])) ∨
  (∃ pre W0, pre.map sy <+: els R ∧ Jx pre W0 ∧ Mv B0 W0 w' ∧ r = .returned (.agg #[.int .i64 0, .int .i64 0])))
/-- The whole is told. -/
theorem rq_of {ws : World} {B0 e i : Nat} {L : List (Nat × List UInt8)} {st : St} {J Jx : List X → World → Prop} {pre : List X} {W0 w' : World} {er ln : Nat} (h8 : Tl e L i st pre) (hE : rdL e st (L.drop i) = ([], er, ln)) (hl : pre.length ≤ 4194306) (hj : J pre W0) (hm : Mv B0 W0 w') (hf : FK ws w') :
    RQ ws B0 J Jx (rdL e st0 L) (.returned (.agg #[.int .i64 (er : Int), .int .i64 (ln : Int)])) w' := by
  refine ⟨hf, .inl ⟨pre, W0, ?_, hl, hj, hm, ?_⟩⟩
  · rw [h8.1, hE]
    simp
  · rw [h8.2, hE]
theorem tl_snoc {e i j : Nat} {L : List (Nat × List UInt8)} {st st' : St} {pre : List X} {x : X} (h8 : Tl e L i st pre) (hx : sy x = rsx st.2) (hE : (rdL e st (L.drop i)).1 = st.2 :: (rdL e st' (L.drop j)).1 ∧ (rdL e st (L.drop i)).2 = (rdL e st' (L.drop j)).2) : Tl e L j st' (pre ++ [x]) := by
  refine ⟨?_, ?_⟩
  · rw [h8.1, hE.1, List.map_cons, List.map_append]
    simp [hx]
  · rw [h8.2, hE.2]
theorem tl_pre {e i : Nat} {L : List (Nat × List UInt8)} {st : St} {pre : List X} {x : X} {ls : List Rc} (h8 : Tl e L i st pre) (hx : sy x = rsx st.2) (hE : (rdL e st (L.drop i)).1 = st.2 :: ls) : (pre ++ [x]).map sy <+: els (rdL e st0 L) := by
  unfold els
  rw [h8.1, hE]
  refine ⟨ls.map rsx ++ (if (rdL e st0 L).2.1 = 0 then [] else [((0, [], []), (rdL e st0 L).2)]), ?_⟩
  simp [hx]
/-- What is read behind a round. -/
theorem kp_stands {ws : World} {B0 rb fb e i : Nat} {J : List X → World → Prop} {L : List (Nat × List UInt8)} {a : Option Addr} {k ln : Nat} {nm : List UInt8} {ps : List PR} {v : Value} {pre : List X} {wy W3 : World} (hk : Kp wy W3) (hr : RB wy rb 2 ln nm v) (hf : wy.heap[fb]? = some (.cells #[.int .i64 0, .int .i64 0] 36 (0, 0))) (hL : LRow wy a L) (hW : WTab wy) (hC : ChgTab wy) (hj : J pre W3) (hB : B0 ≤ wy.heap.size) (h8 : Tl e L i (2, ln, nm, ps) pre) (hl : pre.length ≤ i) (hfk : FK ws wy) :
    RI ws B0 rb fb e J L a i (2, ln, nm, ps) pre W3 v W3.heap.size W3 :=
  ⟨hj, Mv.refl _ _, hk.2.2 _ _ _ (.inr (.inl rfl)) hr, (show 2 ≤ 4 by decide), fun h => absurd (show 3 ≤ 2 from h) (by decide), ⟨Nat.le_refl _, Nat.le_trans hB hk.1⟩, Nat.le_refl _, h8, hl, hk.2.2 _ _ _ (.inr (.inr rfl)) hf, LRow.same hL (fun g cur hg => hk.2.2 _ _ _ (.inl rfl) hg), wtab_same hW (hk.2.1 _ (.inl rfl)), ctab_same hC (hk.2.1 _ (.inr rfl)), fun k cs hk' => hk.2.2 _ _ _ (.inr (.inr rfl)) (hfk k cs hk')⟩
/-- A record is handed on. -/
theorem own_set {w : World} {B rb j k ln : Nat} {nm : List UInt8} {v : Value} {ps : List PR} (h : GOwn 50 2 pV w B v ps) (hr : RB w rb k ln nm v) (y : Value) : GOwn 50 2 pV (w.setCell ⟨rb, j, none⟩ y) B v ps := by
  refine Lr.owns_same h (fun g hg => Below.heap_setCell _ _ _ _ (fun e => ?_))
  have e' : g = rb := e
  subst e'
  obtain ⟨cs, hcs⟩ := owns_typ (show w.ownsRow B 50 2 v _ _ from h) hg
  have hr' : w.heap[g]? = some (.cells _ 65 (0, 0)) := hr
  rw [hr'] at hcs
  injection hcs with hcs
  injection hcs with _ hcs _
  exact absurd hcs (by decide)

set_option maxRecDepth 1000000 in
set_option maxHeartbeats 8000000 in
theorem readLines_any (nf : Nat) (hnf : 1 ≤ nf) (l B0 e : Nat) (J Jx : List X → World → Prop) (a : Option Addr) (c n : Nat) (L : List (Nat × List UInt8)) (w W0 : World) (hn : L.length = n) (hLz : n ≤ 4194305) (hLt : ∀ p ∈ L, p.2.length ≤ 4194304) (he : e ≤ 4194306)
    (hL : LRow w a L) (hWt : WTab w) (hCt : ChgTab w) (hG : 2 < B0 ∧ 1 < B0) (hB : B0 ≤ w.heap.size) (h0 : J [] W0) (hm : Mv B0 W0 w)
    (hY : ∀ pre x W0 W1, J pre W0 → Mv B0 W0 W1 → GX x W0.heap.size W1 → (pre ++ [x]).map sy <+: els (rdL e st0 L) → pre.length < 4194310 → YieldAt Fence.wide (nf - 1) Tryz.prog l (encX x) W1 fun r W' => Kp W1 W' ∧ ((r = .returned (.bool true) ∧ J (pre ++ [x]) W') ∨ (r = .returned (.bool false) ∧ Jx (pre ++ [x]) W'))) :
    CallsIn Fence.wide nf Tryz.prog 13 #[.slice a n c, .int .i64 (e : Int), .func (.yield l) #[] #[]] w (RQ w B0 J Jx (rdL e st0 L)) := by
  have hH : Hid (L.length = n ∧ n ≤ 4194305 ∧ (∀ p ∈ L, p.2.length ≤ 4194304) ∧ B0 ≤ w.heap.size ∧ (2 < B0 ∧ 1 < B0)) := ⟨hn, hLz, hLt, hB, hG⟩
  have hYh : Hid (∀ pre x W0 W1, J pre W0 → Mv B0 W0 W1 → GX x W0.heap.size W1 → (pre ++ [x]).map sy <+: els (rdL e st0 L) → pre.length < 4194310 → YieldAt Fence.wide (nf - 1) Tryz.prog l (encX x) W1 fun r W' => Kp W1 W' ∧ ((r = .returned (.bool true) ∧ J (pre ++ [x]) W') ∨ (r = .returned (.bool false) ∧ Jx (pre ++ [x]) W'))) := hY
  have nb : (n : Int) ≤ 4194305 := by omega
  obtain ⟨Q0, hQ0⟩ : ∃ Q0, RQ w B0 J Jx (rdL e st0 L) = Q0 := ⟨_, rfl⟩
  rw [hQ0]
  have hQ : Hid (RQ w B0 J Jx (rdL e st0 L) = Q0) := hQ0
  have hS : Hid (LRow w a L ∧ WTab w ∧ ChgTab w ∧ J [] W0 ∧ Mv B0 W0 w) := ⟨hL, hWt, hCt, h0, hm⟩
  clear hY hL hWt hCt hG hB h0 hm hLt hLz hn hQ0
  refine callsIn_of_wp Tryz.func13 rfl trivial ?_ rfl
  simp only [Tryz.ntmps13, List.size_toArray, List.length_cons, List.length_nil, Nat.reduceAdd, Nat.reduceSub, Array.replicate_succ, Array.replicate_zero, List.push_toArray, List.append_toArray, List.nil_append, List.cons_append]
  gi_wp2
  refine wpIn_scope ?_
  gi_wp2
  refine wpIn_label ?_
  gi_wp2
  obtain ⟨hL, hWt, hCt, h0, hm⟩ := hS.out
  have hB := hH.out.2.2.2.1
  obtain ⟨w1, hw1⟩ : ∃ w1, (w.alloc (.cells #[.int .i64 0, .int .i64 0] 36)).alloc (.cells #[.int .i64 0, .int .i64 0, .string ⟨#[]⟩, .slice none 0 0] 65) = w1 := ⟨_, rfl⟩
  obtain ⟨fb, hfb⟩ : ∃ fb, w.heap.size = fb := ⟨_, rfl⟩
  have hb1 : Below w.heap.size w w1 := by rw [← hw1]; exact ((Below.refl _ _).alloc (Nat.le_refl _) _).alloc (by simp) _
  have hs1 : w1.heap.size = fb + 2 := by rw [← hw1, ← hfb]; simp
  have hR0 : Hid (RI w B0 (fb + 1) fb e J L a 0 st0 [] W0 (.slice none 0 0) w1.heap.size w1) := by
    refine ⟨h0, hm.below hb1, ?_, by decide, fun h => absurd h (by decide), ⟨Nat.le_trans hm.2.1 hb1.size, Nat.le_trans hB hb1.size⟩, Nat.le_refl _, ⟨rfl, rfl⟩, Nat.le_refl _, ?_, LRow.same hL (fun g cur hg => (hb1.block _ (Array.getElem?_eq_some_iff.1 hg).1).trans hg), hWt.below hb1, hCt.below hb1, fun k cs hk => (hb1.block _ (Array.getElem?_eq_some_iff.1 hk).1).trans hk⟩
    · unfold RB
      have h := heap_alloc_last (w.alloc (.cells #[.int .i64 0, .int .i64 0] 36)) (.cells #[.int .i64 0, .int .i64 0, .string ⟨#[]⟩, .slice none 0 0] 65)
      rw [World.size_alloc, hfb, hw1] at h
      exact h
    · rw [← hw1, Below.heap_alloc _ _ _ (by simp [hfb]), ← hfb]
      exact heap_alloc_last w _
  rw [hw1, hfb]
  clear hw1 hb1 hL hWt hCt h0 hm hS hB
  rw [hfb] at hH
  have hfb' : Hid (w.heap.size = fb) := hfb
  clear hfb
  have hfb := hfb'
  clear hfb'
  gi_loopw [13] (fun iv wr => ∃ (i : Nat) (st : St) (pre : List X) (W0 : World) (v : Value) (Bp : Nat), iv = .int .i64 (i : Int) ∧ i ≤ n ∧ Hid (RI w B0 (fb + 1) fb e J L a i st pre W0 v Bp wr)) (fun iv _ => n - (intOf iv).toNat)
  case atStart => exact ⟨0, st0, [], W0, _, _, rfl, Nat.zero_le _, hR0⟩
  case round =>
    obtain ⟨i, st, pre, W0', v, Bp, rfl, hi, hR⟩ := hrel
    clear hR0 hs1
    obtain ⟨k, ln, nm, ps⟩ := st
    have i0 : (0 : Int) ≤ (i : Int) := Int.natCast_nonneg _
    have i1 : (i : Int) < 4194307 := by omega
    by_cases hlt : i < n
    · have hiL : i < L.length := by rw [hH.out.1]; exact hlt
      have hlt' : Hid (i < n) := hlt
      have i2 : (i : Int) < (n : Int) := by omega
      obtain ⟨g, rfl, c0, c1⟩ := LRow.at hR.out.2.2.2.2.2.2.2.2.2.2.1 i hiL
      have hda := drop_at L i hiL
      have htl := hH.out.2.2.1 _ (List.getElem_mem hiL)
      obtain ⟨nn, hnn⟩ : ∃ nn, L[i].1 = nn := ⟨_, rfl⟩
      obtain ⟨t, ht⟩ : ∃ t, L[i].2 = t := ⟨_, rfl⟩
      rw [hnn] at c0 hda
      rw [ht] at c1 hda htl
      have hda' : Hid (L.drop i = (nn, t) :: L.drop (i + 1)) := hda
      obtain ⟨wl, hwl⟩ : ∃ wl, wr.alloc (.cells #[.int .i64 (nn : Int), .string (S t)] 67) = wl := ⟨_, rfl⟩
      have hbl : Below wr.heap.size wr wl := by rw [← hwl]; exact (Below.refl _ _).alloc (Nat.le_refl _) _
      have hRl : Hid (RI w B0 (fb + 1) fb e J L (some ⟨g, 0, none⟩) i (k, ln, nm, ps) pre W0' v Bp wl) := RI.below hR.out hbl
      have gl : wl.heap[wr.heap.size]? = some (.cells #[.int .i64 (nn : Int), .string (S t)] 67 (0, 0)) := by rw [← hwl]; exact heap_alloc_last wr _
      have x0 : wl.cell? ⟨wr.heap.size, 0, none⟩ = some (.int .i64 (nn : Int)) := by rw [cell_of_row _ _ _ _ _ _ gl]; rfl
      have x1 : wl.cell? ⟨wr.heap.size, 1, none⟩ = some (.string (S t)) := by rw [cell_of_row _ _ _ _ _ _ gl]; rfl
      have gl' : Hid (wl.heap[wr.heap.size]? = some (.cells #[.int .i64 (nn : Int), .string (S t)] 67 (0, 0))) := gl
      have hPre : ∀ W, Hid (Calls Tryz.prog 23 #[.string (S t), .string ⟨#[35]⟩] W fun e w' => e = .returned (.bool (t.head? == some 35)) ∧ W = w') := fun W => by
        have := pre_any (S t) 35 W
        rw [S_l] at this
        exact this.mono (fun e w' h => ⟨h.1, h.2.symm⟩)
      clear hda hnn ht hbl gl hR hiL hlt hi
      cases hh : (t.head? == some 35) with
      | true =>
        rw [hh] at hPre
        have hnx : Hid (RI w B0 (fb + 1) fb e J L (some ⟨g, 0, none⟩) (i + 1) (k, ln, nm, ps) pre W0' v Bp wl) := RI.next hRl.out (by rw [hda'.out, rd_hash _ _ _ _ _ (by simpa using hh)])
        clear hh hda' hRl htl gl'
        gi_wp2_with (refine ⟨trivial, ?_⟩; gi_at_call 23; refine (callsIn_wide.2 (hPre _).out).mono ?_; rintro r w' ⟨rfl, rfl⟩)
        go_roundw
        case rel => exact ⟨i + 1, _, _, _, _, _, by simp, hlt'.out, hnx⟩
        case measure => have := hlt'.out; simp [intOf]; omega
      | false =>
        have hnh : ¬ t.head? = some 35 := by simpa using hh
        rw [hh] at hPre
        by_cases hte : t = []
        · have hem1 : (S t).toList.isEmpty = true := by rw [toList_S, hte]; rfl
          have hem2 : ((S t).toList == []) = true := by rw [toList_S, hte]; rfl
          obtain ⟨r1, r2, r3, r4, r5, r6, r7, r8, r9, r10, r11, r12, r13, r14⟩ := hRl.out
          dsimp only at r3 r4 r5
          have d0 := r3.c0.1
          have f0 := r3.c0.2
          have hbl := rd_blank e (k, ln, nm, ps) nn (L.drop (i + 1))
          rw [← hte, ← hda'.out] at hbl
          have hbl' : Hid (rdL e (k, ln, nm, ps) (L.drop i) = _) := hbl
          clear hbl hda' hnh hh htl hte
          generalize S t = T at *
          by_cases k3 : k = 3
          · subst k3
            have d1 := r3.c1.1
            have g0 : wl.cell? ⟨fb, 0, none⟩ = some (.int .i64 0) := by rw [cell_of_row _ _ _ _ _ _ r10]; rfl
            have g1 : wl.cell? ⟨fb, 1, none⟩ = some (.int .i64 0) := by rw [cell_of_row _ _ _ _ _ _ r10]; rfl
            have q0 := Go.frozen_of_row wl fb 0 _ _ r10
            have q1 := Go.frozen_of_row wl fb 1 _ _ r10
            have hfin : Hid (Q0 (.returned (.agg #[.int .i64 79, .int .i64 (ln : Int)])) ((wl.setCell ⟨fb, 0, none⟩ (.int .i64 79)).setCell ⟨fb, 1, none⟩ (.int .i64 (ln : Int)))) := by
              unfold Hid
              rw [← hQ.out]
              exact rq_of (er := 79) (ln := ln) r8 (by rw [hbl'.out, if_pos rfl]; rfl) (by have := hH.out.2.1; have := hlt'.out; omega) r1 (fault_mv r2 r10 hH.out.2.2.2.1 _ _) ((r14.set (Nat.le_of_eq hfb.out) _).set (Nat.le_of_eq hfb.out) _)
            have hHF : Hid (((wl.setCell ⟨fb, 0, none⟩ (.int .i64 79)).setCell ⟨fb, 1, none⟩ (.int .i64 (ln : Int))).heap[fb]? = some (.cells #[.int .i64 79, .int .i64 (ln : Int)] 36 (0, 0))) := fault_set r10 _ _
            clear r1 r2 r3 r4 r5 r6 r7 r8 r9 r10 r11 r12 r13 r14 hRl hbl' gl'
            gi_wp2_with (refine ⟨trivial, ?_⟩; gi_at_call 23; refine (callsIn_wide.2 (hPre _).out).mono ?_; rintro r w' ⟨rfl, rfl⟩)
            refine bodyPost_ret (results_f rfl _ _ fb _ _ rfl hHF.out) rfl ?_
            exact hfin.out
          · by_cases k4 : k = 4
            · subst k4
              obtain ⟨o1, o2⟩ := r5 (by decide)
              obtain ⟨va, vc, rfl, _⟩ := o1.row pV_len
              have d1 := r3.c1.1
              have d2 := r3.c2.1
              have d3 := r3.c3.1
              obtain ⟨wy, hwy⟩ : ∃ wy, wl.setCell ⟨fb + 1, 0, none⟩ (.int .i64 2) = wy := ⟨_, rfl⟩
              have ry : RB wy (fb + 1) 2 ln nm (.slice va ps.length vc) := by rw [← hwy]; exact r3.s0 2
              have e1 := ry.c1.1
              have e2 := ry.c2.1
              have e3 := ry.c3.1
              have my : Mv B0 W0' wy := by rw [← hwy]; exact r2.set _ r3 ⟨_, .inl rfl⟩ (by have := hH.out.2.2.2.1; omega)
              have gy : GX (((ln : Int), nm, va, vc, ps), 0, 0) W0'.heap.size wy := by
                rw [← hwy]
                exact own_set (Lr.owns_base o1 r6.1) r3 _
              have oth : ∀ b, b ≠ fb + 1 → wy.heap[b]? = wl.heap[b]? := fun b hb => by rw [← hwy]; exact Below.heap_setCell _ _ _ _ hb
              have fy : wy.heap[fb]? = some (.cells #[.int .i64 0, .int .i64 0] 36 (0, 0)) := (oth _ (by omega)).trans r10
              have hE : rdL e (4, ln, nm, ps) (L.drop i) = ((ln, nm, ps) :: (rdL e (2, ln, nm, ps) (L.drop (i + 1))).1, (rdL e (2, ln, nm, ps) (L.drop (i + 1))).2) := by rw [hbl'.out, if_neg (show ¬ 4 = 3 by decide), if_pos rfl]
              have hTl : Tl e L (i + 1) (2, ln, nm, ps) (pre ++ [(((ln : Int), nm, va, vc, ps), 0, 0)]) := tl_snoc r8 rfl ⟨by rw [hE], by rw [hE]⟩
              have hpx := tl_pre (x := (((ln : Int), nm, va, vc, ps), 0, 0)) r8 rfl (by rw [hE])
              obtain ⟨fn, tmps, assign, body, hy, hRd⟩ := hYh.out pre (((ln : Int), nm, va, vc, ps), 0, 0) W0' wy r1 my gy hpx (by have := hH.out.2.1; have := hlt'.out; omega)
              change (Instr.yield l #[.agg #[.int .i64 (ln : Int), .string (S nm), .slice va ps.length vc], .agg #[.int .i64 0, .int .i64 0]]).run Tryz.prog wy = _ at hy
              have hsy : wy.heap.size = wl.heap.size := by rw [← hwy, World.size_setCell]
              have hst : Hid (∀ W3, Kp wy W3 → J (pre ++ [(((ln : Int), nm, va, vc, ps), 0, 0)]) W3 → RI w B0 (fb + 1) fb e J L (some ⟨g, 0, none⟩) (i + 1) (2, ln, nm, ps) (pre ++ [(((ln : Int), nm, va, vc, ps), 0, 0)]) W3 (.slice va ps.length vc) W3.heap.size W3) := fun W3 hk hj =>
                kp_stands (k := 2) hk ry fy (LRow.same r11 (fun g' cur hg => (oth _ (fun e => by subst e; have h := r3; unfold RB at h; rw [hg] at h; injection h with h; injection h with _ h _; exact absurd h (by decide))).trans hg)) (wtab_same r12 (oth _ (by have := hH.out.2.2.2; omega))) (ctab_same r13 (oth _ (by have := hH.out.2.2.2; omega))) hj (by rw [hsy]; have := r6.2; omega) hTl (by simp; omega) (by rw [← hwy]; exact r14.set (Nat.le_succ_of_le (Nat.le_of_eq hfb.out)) _)
              have hpx' : Hid ((pre ++ [(((ln : Int), nm, va, vc, ps), 0, 0)]).map sy <+: els (rdL e st0 L)) := hpx
              have hfky : Hid (FK w wy) := by unfold Hid; rw [← hwy]; exact r14.set (Nat.le_succ_of_le (Nat.le_of_eq hfb.out)) _
              have fy' : Hid (wy.heap[fb]? = some (.cells #[.int .i64 0, .int .i64 0] 36 (0, 0))) := fy
              generalize ps.length = pn at *
              clear r1 r2 r3 r4 r5 r6 r7 r8 r9 r10 r11 r12 r13 r14 hRl hbl' gl' o1 o2 ry my gy oth hE hTl hpx hsy k3 fy
              gi_wp2_with (refine ⟨trivial, ?_⟩; gi_at_call 23; refine (callsIn_wide.2 (hPre _).out).mono ?_; rintro r w' ⟨rfl, rfl⟩)
              refine hRd.mono ?_
              rintro r W3 ⟨hk3, (⟨rfl, hj3⟩ | ⟨rfl, hj3⟩)⟩
              · have hnx : Hid _ := hst.out W3 hk3 hj3
                clear hst hk3 hj3 hRd hy
                gi_wp2
                go_roundw
                case rel => exact ⟨i + 1, (2, ln, nm, ps), pre ++ [(((ln : Int), nm, va, vc, ps), 0, 0)], W3, .slice va pn vc, W3.heap.size, by simp, hlt'.out, hnx⟩
                case measure => have := hlt'.out; simp [intOf]; omega
              · have f3 := hk3.2.2 _ _ _ (.inr (.inr rfl)) fy'.out
                have g0 : W3.cell? ⟨fb, 0, none⟩ = some (.int .i64 0) := by rw [cell_of_row _ _ _ _ _ _ f3]; rfl
                have g1 : W3.cell? ⟨fb, 1, none⟩ = some (.int .i64 0) := by rw [cell_of_row _ _ _ _ _ _ f3]; rfl
                have q0 := Go.frozen_of_row W3 fb 0 _ _ f3
                have q1 := Go.frozen_of_row W3 fb 1 _ _ f3
                have hHF : Hid (((W3.setCell ⟨fb, 0, none⟩ (.int .i64 0)).setCell ⟨fb, 1, none⟩ (.int .i64 0)).heap[fb]? = some (.cells #[.int .i64 0, .int .i64 0] 36 (0, 0))) := fault_set f3 _ _
                have hfin : Hid (Q0 (.returned (.agg #[.int .i64 0, .int .i64 0])) ((W3.setCell ⟨fb, 0, none⟩ (.int .i64 0)).setCell ⟨fb, 1, none⟩ (.int .i64 0))) := by
                  unfold Hid
                  rw [← hQ.out]
                  exact ⟨((FK.kp hfky.out hk3).set (Nat.le_of_eq hfb.out) _).set (Nat.le_of_eq hfb.out) _, .inr ⟨_, W3, hpx'.out, hj3, fault_mv (Mv.refl _ _) f3 hH.out.2.2.2.1 _ _, rfl⟩⟩
                clear hst hk3 hj3 hRd hy f3
                gi_wp2
                refine bodyPost_ret (results_f rfl _ _ fb _ _ rfl hHF.out) rfl ?_
                exact hfin.out
            · have hnx : Hid (RI w B0 (fb + 1) fb e J L (some ⟨g, 0, none⟩) (i + 1) (k, ln, nm, ps) pre W0' v Bp wl) := RI.next hRl.out (by rw [hbl'.out, if_neg k3, if_neg k4])
              have y3 : ((k : Int) == 3) = false := by simp only [beq_eq_false_iff_ne, ne_eq]; omega
              have y4 : ((k : Int) == 4) = false := by simp only [beq_eq_false_iff_ne, ne_eq]; omega
              clear r1 r2 r3 r4 r5 r6 r7 r8 r9 r10 r11 r12 r13 r14 hRl hbl' gl' k3 k4
              gi_wp2_with (refine ⟨trivial, ?_⟩; gi_at_call 23; refine (callsIn_wide.2 (hPre _).out).mono ?_; rintro r w' ⟨rfl, rfl⟩)
              go_roundw
              case rel => exact ⟨i + 1, _, _, _, _, _, by simp, hlt'.out, hnx⟩
              case measure => have := hlt'.out; simp [intOf]; omega
        · have hne1 : (S t).toList.isEmpty = false := by rw [toList_S]; simpa using hte
          have hne2 : ((S t).toList == []) = false := by rw [toList_S]; simpa using hte
          have hrt := rd_take e (k, ln, nm, ps) nn t (L.drop (i + 1)) hnh hte
          rw [← hda'.out] at hrt
          obtain ⟨r1, r2, r3, r4, r5, r6, r7, r8, r9, r10, r11, r12, r13, r14⟩ := hRl.out
          have hTk : Hid (Calls Tryz.prog 24 #[.pointer (some ⟨fb + 1, 0, none⟩), .agg #[.int .i64 (nn : Int), .string (S t)]] wl fun r w' => r = .returned (.int .i64 (takeF (k, ln, nm, ps) t : Nat)) ∧ TkQ (fb + 1) Bp v (k, ln, nm, ps) nn t wl w') :=
            take_any (fb + 1) Bp v (k, ln, nm, ps) nn t wl r4 r3 htl r12 r13 (fun h => ⟨(r5 h).1, by have := (r5 h).2; have := hH.out.2.1; have := hlt'.out; omega⟩) r7
          have r8' : Hid (Tl e L i (k, ln, nm, ps) pre) := r8
          have r9' : Hid (pre.length ≤ i) := r9
          clear r1 r2 r3 r4 r5 r6 r7 r8 r9 r10 r11 r12 r13 r14
          by_cases hF : takeF (k, ln, nm, ps) t = 0
          · rw [if_pos hF] at hrt
            have hF' : Hid (takeF (k, ln, nm, ps) t = 0) := hF
            have hrt' : Hid (rdL e (k, ln, nm, ps) (L.drop i) = _) := hrt
            have hTk0 : Hid (Calls Tryz.prog 24 #[.pointer (some ⟨fb + 1, 0, none⟩), .agg #[.int .i64 (nn : Int), .string (S t)]] wl fun r w' => r = .returned (.int .i64 0) ∧ Hid (∃ v', RI w B0 (fb + 1) fb e J L (some ⟨g, 0, none⟩) (i + 1) (takeS (k, ln, nm, ps) nn t) pre W0' v' Bp w')) := by
              refine hTk.out.mono ?_
              rintro r w2 ⟨rfl, hq2⟩
              refine ⟨by rw [hF]; rfl, ?_⟩
              obtain ⟨m2, f2, j2, k2, s2⟩ := RI.take hRl.out hq2 (by have := hH.out.2.2.2.1; omega) hH.out.2.2.2.2
              exact s2 hF hrt
            clear hF hrt hTk hRl hda' hnh hh hte htl gl'
            gi_wp2_with (first
              | (refine ⟨trivial, ?_⟩; gi_at_call 23; refine (callsIn_wide.2 (hPre _).out).mono ?_; rintro r w' ⟨rfl, rfl⟩)
              | (refine ⟨trivial, ?_⟩; gi_at_call 24; refine (callsIn_wide.2 hTk0.out).mono ?_; rintro r w2 ⟨rfl, hq2⟩))
            go_roundw
            case rel =>
              obtain ⟨v', hv'⟩ := hq2.out
              exact ⟨i + 1, _, _, _, v', _, by simp, hlt'.out, hv'⟩
            case measure => have := hlt'.out; simp [intOf]; omega
          · rw [if_neg hF] at hrt
            obtain ⟨tf, htf⟩ : ∃ tf, takeF (k, ln, nm, ps) t = tf := ⟨_, rfl⟩
            have hTk0 : Hid (Calls Tryz.prog 24 #[.pointer (some ⟨fb + 1, 0, none⟩), .agg #[.int .i64 (nn : Int), .string (S t)]] wl fun r w' => r = .returned (.int .i64 (tf : Int)) ∧ Hid ((w'.cell? ⟨wr.heap.size, 0, none⟩ = some (.int .i64 (nn : Int)) ∧ w'.heap[fb]? = some (.cells #[.int .i64 0, .int .i64 0] 36 (0, 0))) ∧ Q0 (.returned (.agg #[.int .i64 (tf : Int), .int .i64 (nn : Int)])) ((w'.setCell ⟨fb, 0, none⟩ (.int .i64 (tf : Int))).setCell ⟨fb, 1, none⟩ (.int .i64 (nn : Int))))) := by
              refine hTk.out.mono ?_
              rintro r w2 ⟨rfl, hq2⟩
              refine ⟨by rw [htf], ?_⟩
              obtain ⟨m2, f2, j2, k2, s2⟩ := RI.take hRl.out hq2 (by have := hH.out.2.2.2.1; omega) hH.out.2.2.2.2
              refine ⟨⟨?_, f2⟩, ?_⟩
              · have hx : w2.heap[wr.heap.size]? = wl.heap[wr.heap.size]? := hq2.1.2.2 _ (Array.getElem?_eq_some_iff.1 gl'.out).1 (fun e => by
                  have h := hRl.out.2.2.1
                  unfold RB at h
                  rw [← e, gl'.out] at h
                  injection h with h
                  injection h with _ h _
                  exact absurd h (by decide)) (fun e => by
                  unfold pvw at e
                  by_cases hk3 : 3 ≤ k
                  · rw [if_pos hk3] at e
                    obtain ⟨cs, hcs⟩ := owns_typ (show wl.ownsRow Bp 50 2 v _ _ from (hRl.out.2.2.2.2.1 hk3).1) e
                    rw [gl'.out] at hcs
                    injection hcs with hcs
                    injection hcs with _ hcs _
                    exact absurd hcs (by decide)
                  · rw [if_neg hk3] at e
                    cases e)
                rw [cell_of_row _ _ _ _ _ _ (hx.trans gl'.out)]
                rfl
              · rw [← hQ.out]
                exact rq_of r8'.out (by rw [hrt, htf]) (by have := r9'.out; have := hH.out.2.1; have := hlt'.out; omega) j2 (fault_mv m2 f2 hH.out.2.2.2.1 _ _) ((k2.set (Nat.le_of_eq hfb.out) _).set (Nat.le_of_eq hfb.out) _)
            have htf0 : ((tf : Int) != 0) = true := by simp only [bne_iff_ne, ne_eq]; omega
            clear hF hrt hTk hRl hda' hnh hh hte htl gl' htf
            gi_wp2_with (first
              | (refine ⟨trivial, ?_⟩; gi_at_call 23; refine (callsIn_wide.2 (hPre _).out).mono ?_; rintro r w' ⟨rfl, rfl⟩)
              | (refine ⟨trivial, ?_⟩; gi_at_call 24; refine (callsIn_wide.2 hTk0.out).mono ?_; rintro r w2 ⟨rfl, hq2⟩; have y0 := hq2.out.1.1; have f2 := hq2.out.1.2; have g0 : w2.cell? ⟨fb, 0, none⟩ = some (.int .i64 0) := (by rw [cell_of_row _ _ _ _ _ _ f2]; rfl); have g1 : w2.cell? ⟨fb, 1, none⟩ = some (.int .i64 0) := (by rw [cell_of_row _ _ _ _ _ _ f2]; rfl); have q0 := Go.frozen_of_row w2 fb 0 _ _ f2; have q1 := Go.frozen_of_row w2 fb 1 _ _ f2; have hHF : Hid _ := fault_set f2 (.int .i64 (tf : Int)) (.int .i64 (nn : Int)); clear f2))
            refine bodyPost_ret (results_f rfl _ _ fb _ _ rfl hHF.out) rfl ?_
            exact hq2.out.2
    · have hin : i = n := by omega
      subst hin
      have i2 : ¬ (i : Int) < (i : Int) := by omega
      have hnb := hH.out.2.1
      have hdr : L.drop i = [] := by rw [← hH.out.1]; exact List.drop_length
      obtain ⟨r1, r2, r3, r4, r5, r6, r7, r8, r9, r10, r11, r12, r13, r14⟩ := hR.out
      dsimp only at r3 r4 r5
      have d0 := r3.c0.1
      have d1 := r3.c1.1
      have d2 := r3.c2.1
      have d3 := r3.c3.1
      have g0 : wr.cell? ⟨fb, 0, none⟩ = some (.int .i64 0) := by rw [cell_of_row _ _ _ _ _ _ r10]; rfl
      have g1 : wr.cell? ⟨fb, 1, none⟩ = some (.int .i64 0) := by rw [cell_of_row _ _ _ _ _ _ r10]; rfl
      have q0 := Go.frozen_of_row wr fb 0 _ _ r10
      have q1 := Go.frozen_of_row wr fb 1 _ _ r10
      clear hlt hi
      have hk5 : k = 0 ∨ k = 1 ∨ k = 2 ∨ k = 3 ∨ k = 4 := by omega
      rcases hk5 with rfl | rfl | rfl | rfl | rfl
      · have hHF : Hid (((wr.setCell ⟨fb, 0, none⟩ (.int .i64 72)).setCell ⟨fb, 1, none⟩ (.int .i64 (e : Int))).heap[fb]? = some (.cells #[.int .i64 72, .int .i64 (e : Int)] 36 (0, 0))) := fault_set r10 _ _
        have hfin : Hid (Q0 (.returned (.agg #[.int .i64 72, .int .i64 (e : Int)])) ((wr.setCell ⟨fb, 0, none⟩ (.int .i64 72)).setCell ⟨fb, 1, none⟩ (.int .i64 (e : Int)))) := by
          unfold Hid
          rw [← hQ.out]
          exact rq_of (er := 72) (ln := e) r8 (by rw [hdr]; rfl) (by omega) r1 (fault_mv r2 r10 hH.out.2.2.2.1 _ _) ((r14.set (Nat.le_of_eq hfb.out) _).set (Nat.le_of_eq hfb.out) _)
        clear r1 r2 r3 r4 r5 r6 r7 r8 r9 r10 r11 r12 r13 r14 hR hdr
        gi_wp2
        refine bodyPost_ret (results_f rfl _ _ fb _ _ rfl hHF.out) rfl ?_
        exact hfin.out
      · have hHF : Hid (((wr.setCell ⟨fb, 0, none⟩ (.int .i64 73)).setCell ⟨fb, 1, none⟩ (.int .i64 (e : Int))).heap[fb]? = some (.cells #[.int .i64 73, .int .i64 (e : Int)] 36 (0, 0))) := fault_set r10 _ _
        have hfin : Hid (Q0 (.returned (.agg #[.int .i64 73, .int .i64 (e : Int)])) ((wr.setCell ⟨fb, 0, none⟩ (.int .i64 73)).setCell ⟨fb, 1, none⟩ (.int .i64 (e : Int)))) := by
          unfold Hid
          rw [← hQ.out]
          exact rq_of (er := 73) (ln := e) r8 (by rw [hdr]; rfl) (by omega) r1 (fault_mv r2 r10 hH.out.2.2.2.1 _ _) ((r14.set (Nat.le_of_eq hfb.out) _).set (Nat.le_of_eq hfb.out) _)
        clear r1 r2 r3 r4 r5 r6 r7 r8 r9 r10 r11 r12 r13 r14 hR hdr
        gi_wp2
        refine bodyPost_ret (results_f rfl _ _ fb _ _ rfl hHF.out) rfl ?_
        exact hfin.out
      · have hHF : Hid (((wr.setCell ⟨fb, 0, none⟩ (.int .i64 0)).setCell ⟨fb, 1, none⟩ (.int .i64 0)).heap[fb]? = some (.cells #[.int .i64 0, .int .i64 0] 36 (0, 0))) := fault_set r10 _ _
        have hfin : Hid (Q0 (.returned (.agg #[.int .i64 0, .int .i64 0])) ((wr.setCell ⟨fb, 0, none⟩ (.int .i64 0)).setCell ⟨fb, 1, none⟩ (.int .i64 0))) := by
          unfold Hid
          rw [← hQ.out]
          exact rq_of (er := 0) (ln := 0) r8 (by rw [hdr]; rfl) (by omega) r1 (fault_mv r2 r10 hH.out.2.2.2.1 _ _) ((r14.set (Nat.le_of_eq hfb.out) _).set (Nat.le_of_eq hfb.out) _)
        clear r1 r2 r3 r4 r5 r6 r7 r8 r9 r10 r11 r12 r13 r14 hR hdr
        gi_wp2
        refine bodyPost_ret (results_f rfl _ _ fb _ _ rfl hHF.out) rfl ?_
        exact hfin.out
      · have hHF : Hid (((wr.setCell ⟨fb, 0, none⟩ (.int .i64 79)).setCell ⟨fb, 1, none⟩ (.int .i64 (ln : Int))).heap[fb]? = some (.cells #[.int .i64 79, .int .i64 (ln : Int)] 36 (0, 0))) := fault_set r10 _ _
        have hfin : Hid (Q0 (.returned (.agg #[.int .i64 79, .int .i64 (ln : Int)])) ((wr.setCell ⟨fb, 0, none⟩ (.int .i64 79)).setCell ⟨fb, 1, none⟩ (.int .i64 (ln : Int)))) := by
          unfold Hid
          rw [← hQ.out]
          exact rq_of (er := 79) (ln := ln) r8 (by rw [hdr]; rfl) (by omega) r1 (fault_mv r2 r10 hH.out.2.2.2.1 _ _) ((r14.set (Nat.le_of_eq hfb.out) _).set (Nat.le_of_eq hfb.out) _)
        clear r1 r2 r3 r4 r5 r6 r7 r8 r9 r10 r11 r12 r13 r14 hR hdr
        gi_wp2
        refine bodyPost_ret (results_f rfl _ _ fb _ _ rfl hHF.out) rfl ?_
        exact hfin.out
      · obtain ⟨o1, o2⟩ := r5 (by decide)
        obtain ⟨va, vc, rfl, _⟩ := o1.row pV_len
        have gy : GX (((ln : Int), nm, va, vc, ps), 0, 0) W0'.heap.size wr := Lr.owns_base o1 r6.1
        have hE : rdL e (4, ln, nm, ps) (L.drop i) = ([(ln, nm, ps)], 0, 0) := by rw [hdr]; rfl
        have hpx := tl_pre (x := (((ln : Int), nm, va, vc, ps), 0, 0)) r8 rfl (by rw [hE])
        obtain ⟨fn, tmps, assign, body, hy, hRd⟩ := hYh.out pre (((ln : Int), nm, va, vc, ps), 0, 0) W0' wr r1 r2 gy hpx (by omega)
        change (Instr.yield l #[.agg #[.int .i64 (ln : Int), .string (S nm), .slice va ps.length vc], .agg #[.int .i64 0, .int .i64 0]]).run Tryz.prog wr = _ at hy
        have hst : Hid (∀ W3, (J (pre ++ [(((ln : Int), nm, va, vc, ps), 0, 0)]) W3 ∨ Jx (pre ++ [(((ln : Int), nm, va, vc, ps), 0, 0)]) W3) → ∀ w', Mv B0 W3 w' → FK w w' → Q0 (.returned (.agg #[.int .i64 0, .int .i64 0])) w') := fun W3 hj w' hm hf => by
          rw [← hQ.out]
          refine ⟨hf, ?_⟩
          rcases hj with hj | hj
          · refine .inl ⟨_, W3, ?_, by simp; omega, hj, hm, ?_⟩
            · rw [r8.1, hE]
              simp [sy, rsx]
            · rw [r8.2, hE]
              rfl
          · exact .inr ⟨_, W3, hpx, hj, hm, rfl⟩
        have hfky : Hid (FK w wr) := r14
        have fy' : Hid (wr.heap[fb]? = some (.cells #[.int .i64 0, .int .i64 0] 36 (0, 0))) := r10
        generalize ps.length = pn at *
        clear r1 r2 r3 r4 r5 r6 r7 r8 r9 r10 r11 r12 r13 r14 hR hdr o1 o2 gy hE hpx
        gi_wp2
        refine hRd.mono ?_
        rintro r W3 ⟨hk3, hj3⟩
        have f3 := hk3.2.2 _ _ _ (.inr (.inr rfl)) fy'.out
        have e0 : W3.cell? ⟨fb, 0, none⟩ = some (.int .i64 0) := by rw [cell_of_row _ _ _ _ _ _ f3]; rfl
        have e1 : W3.cell? ⟨fb, 1, none⟩ = some (.int .i64 0) := by rw [cell_of_row _ _ _ _ _ _ f3]; rfl
        have z0 := Go.frozen_of_row W3 fb 0 _ _ f3
        have z1 := Go.frozen_of_row W3 fb 1 _ _ f3
        have hHF : Hid (((W3.setCell ⟨fb, 0, none⟩ (.int .i64 0)).setCell ⟨fb, 1, none⟩ (.int .i64 0)).heap[fb]? = some (.cells #[.int .i64 0, .int .i64 0] 36 (0, 0))) := fault_set f3 _ _
        have hfin : Hid (Q0 (.returned (.agg #[.int .i64 0, .int .i64 0])) ((W3.setCell ⟨fb, 0, none⟩ (.int .i64 0)).setCell ⟨fb, 1, none⟩ (.int .i64 0))) := hst.out W3 (hj3.imp (·.2) (·.2)) _ (fault_mv (Mv.refl _ _) f3 hH.out.2.2.2.1 _ _) (((FK.kp hfky.out hk3).set (Nat.le_of_eq hfb.out) _).set (Nat.le_of_eq hfb.out) _)
        have hr : ∃ b, r = .returned (.bool b) := by
          rcases hj3 with h | h
          · exact ⟨_, h.1⟩
          · exact ⟨_, h.1⟩
        obtain ⟨b, rfl⟩ := hr
        clear hst hk3 hj3 hRd hy f3 g0 g1 q0 q1
        gi_wp2
        refine bodyPost_ret (results_f rfl _ _ fb _ _ rfl hHF.out) rfl ?_
        exact hfin.out
end Rd
end Go.Proofs.YtoomoicjoockjaaGreatDoor
