import Derived.Test.YtmkmfnbjmakebaaPgStd
namespace Go.Proofs.Ytmkmfnbjmakebaa
open Go.RowKit Go.Sort Go.Lib
open PgMath (Inc setOf cnt)
open PgHpM (Hd)
set_option linter.unusedVariables false
set_option linter.unusedSimpArgs false

theorem rises_yes (l : List Int) (a : Option Addr) (c : Nat) (w : World) (h : Rd w a c l) (hi : Inc l) :
    Calls Try.prog 18 #[.slice a l.length c] w fun e w' => e = .returned (.bool true) ∧ Below w.heap.size w w' := by
  refine (rises_any l a c w (by have := h.2.2.2; omega) h.1).mono ?_
  rintro e w' ⟨rfl, q, rfl⟩
  exact ⟨by rw [decide_eq_true hi], below_drewN _ _ _⟩
theorem two_of {Os : List Hd} {la lb : List Int} (h : lsts Os = [la, lb]) : ∃ a0 c0 a1 c1, Os = [(a0, c0, la), (a1, c1, lb)] := by
  unfold lsts at h
  match Os, h with
  | [(a0, c0, l0), (a1, c1, l1)], h =>
    simp at h
    obtain ⟨rfl, rfl⟩ := h
    exact ⟨a0, c0, a1, c1, rfl⟩
theorem stands_say (l : List Int) (a : Option Addr) (c : Nat) (x : Int) (w : World) (h : Rd w a c l) (b : Bool) (hb : x ∈ l ↔ b = true) :
    Calls Try.prog 20 #[.slice a l.length c, .int .i64 x] w fun e w' => e = .returned (.bool b) ∧ w = w' := by
  have e : decide (x ∈ l) = b := by
    cases b with
    | true => simpa using hb
    | false => simpa using hb
  rw [← e]
  refine (stands_any l a c x w (by have := h.2.2.2; omega) h.1).mono ?_
  rintro e w' ⟨rfl, rfl⟩
  exact ⟨rfl, rfl⟩

set_option maxRecDepth 1000000 in
set_option maxHeartbeats 8000000 in
theorem members_walk (aa : Option Addr) (ca : Nat) (la : List Int) (ab : Option Addr) (cb : Nat) (lb : List Int) (x : Int) (w : World) (h1 : Rd w aa ca la) (n1 : la.length ≤ 1048576) (h2 : Rd w ab cb lb) (n2 : lb.length ≤ 1048576) (hx : -9223372036854775808 ≤ x ∧ x ≤ 9223372036854775807) :
    Calls Try.prog 6 #[.slice aa la.length ca, .slice ab lb.length cb, .int .i64 x] w fun e w' => e = .returned (.bool true) ∧ Below w.heap.size w w' := by
  have Kin : Hid (∀ W, Below w.heap.size w W → Rd W aa ca la ∧ Rd W ab cb lb) := fun W hW => ⟨h1.below hW, h2.below hW⟩
  have hsp : Hid (Calls Try.prog 12 #[.slice (some ⟨w.heap.size, 0, none⟩) 2 2] (w.alloc (.cells #[.slice aa la.length ca, .slice ab lb.length cb] 23)) fun e w' => ∃ ob oo oc a0 c0 a1 c1, e = .returned (.slice (some ⟨ob, oo, none⟩) 2 oc) ∧ (∀ W, Below w'.heap.size w' W → W.cell? ⟨ob, oo, none⟩ = some (.slice a0 la.length c0) ∧ W.cell? ⟨ob, oo + 1, none⟩ = some (.slice a1 lb.length c1)) ∧ (∀ W, Below w'.heap.size w' W → Rd W a0 c0 la ∧ Rd W a1 c1 lb) ∧ Below w.heap.size w w') := by
    have hb : Below w.heap.size w (w.alloc (.cells #[.slice aa la.length ca, .slice ab lb.length cb] 23)) := (Below.refl _ _).alloc (Nat.le_refl _) _
    refine Calls.mono (spared_any (some ⟨w.heap.size, 0, none⟩) [(aa, ca, la), (ab, cb, lb)] 2 _ (srow_lit w [(aa, ca, la), (ab, cb, lb)] 23) (fun y hy => ?_) (by simp [tot, lsts]; omega)) ?_
    · simp only [List.mem_cons, List.not_mem_nil, or_false] at hy
      rcases hy with rfl | rfl
      · exact h1.below hb
      · exact h2.below hb
    · rintro e w' ⟨a, c, Os, rfl, ⟨q1, q2, q3, q4, q5⟩, q6⟩
      have q7 : lsts Os = [la, lb] := by rw [q3, q6]; rfl
      obtain ⟨a0, c0, a1, c1, rfl⟩ := two_of q7
      obtain ⟨a', c', e, r1, _⟩ := ownL_slice q1
      injection e with e1 _ e2
      subst e1 e2
      obtain ⟨ob, oo, rfl, r2⟩ := r1 0 (by simp)
      obtain ⟨ob', oo', e3, r3⟩ := r1 1 (by simp)
      injection e3 with e3
      injection e3 with e4 e5
      subst e4 e5
      simp only [List.getElem_cons_zero, List.getElem_cons_succ, Nat.add_zero, hv] at r2 r3
      have s0 := (q4 (a0, c0, la) (by simp)).rd (by show la.length ≤ _; omega)
      have s1 := (q4 (a1, c1, lb) (by simp)).rd (by show lb.length ≤ _; omega)
      refine ⟨ob, oo, c, a0, c0, a1, c1, rfl, fun W hW => ⟨?_, ?_⟩, fun W hW => ⟨s0.below hW, s1.below hW⟩, hb.trans (q5.mono (by simp))⟩
      · rw [hW.cell (World.block_lt_of_cell? w' _ r2)]; exact r2
      · rw [hW.cell (World.block_lt_of_cell? w' _ r3)]; exact r3
  clear h1 h2
  go_enter Try.func6, Try.ntmps6
  go_wp2_with (first
    | (refine (Hid.out HB1 |> fun _ => ?_); go_at_call 11; refine (of_lit w1 a0 la c0 ⟨(Kg.out w1 (Below.refl _ _)).1, by omega⟩).mono ?_; rintro e w2 ⟨ar2, cr2, M2, rfl, hr, hs, hl, hb⟩; have K2 : Hid (Rd w2 ar2 cr2 M2 ∧ SetIs (fun x => x ∈ la) M2 ∧ M2.length ≤ 1048576) := ⟨hr, hs, by omega⟩; clear hr hs hl; have hb2 : Hid (Below w1.heap.size w1 w2) := hb; have HB2 : Hid (Below w.heap.size w w2) := HB1.out.trans (hb2.out.mono HB1.out.size); have HC2 : Hid (Below w1.heap.size w1 w2) := HC1.out.trans (hb2.out.mono HC1.out.size); have cc2 := hC.out w2 HC2.out; clear hb)
    | (go_at_call 12; refine hsp.out.mono ?_; rintro e w1 ⟨ob, oo, oc, a0, c0, a1, c1, rfl, hc, hk, hb⟩; have hC : Hid _ := hc; have Kg : Hid (∀ W, Below w1.heap.size w1 W → Rd W a0 c0 la ∧ Rd W a1 c1 lb) := hk; have HB1 : Hid (Below w.heap.size w w1) := hb; have HC1 : Hid (Below w1.heap.size w1 w1) := Below.refl _ _; have cc1 := hC.out w1 HC1.out; clear hc hk hb))
  clear hsp
  have d3 : Hid (Below w2.heap.size w2 w2.drew) := below_drewN _ _ 1
  have HD3 : Hid (Below w1.heap.size w1 w2.drew) := HC2.out.trans (d3.out.mono HC2.out.size)
  have cd3 := hC.out w2.drew HD3.out
  have ca3 : ∀ o, (w2.drew.alloc o).cell? ⟨ob, oo, none⟩ = some (.slice a0 la.length c0) ∧ (w2.drew.alloc o).cell? ⟨ob, oo + 1, none⟩ = some (.slice a1 lb.length c1) := fun o => hC.out _ (HD3.out.alloc HD3.out.size _)
  have kd3 := Kg.out w2.drew HD3.out
  go_region_held3 (fun w' => w'.cell? ⟨ob, oo, none⟩ = some (.slice a0 la.length c0) ∧ w'.cell? ⟨ob, oo + 1, none⟩ = some (.slice a1 lb.length c1))
    (first | exact cc3 | exact cd3 | exact ca3 _)
    (first | (go_at_call 9; refine (union2 w2.drew a0 c0 la a1 c1 lb ⟨kd3.1, by omega⟩ ⟨kd3.2, by omega⟩).mono ?_; rintro e w3 ⟨ar3, cr3, M3, rfl, hr, hs, hl, hbq⟩; have hb := (d3.out.trans (hbq.mono d3.out.size)); have K3 : Hid (Rd w3 ar3 cr3 M3 ∧ SetIs (fun x => x ∈ la ∨ x ∈ lb) M3 ∧ M3.length ≤ 2097152) := ⟨hr, hs, by omega⟩; clear hr hs hl hbq; have hb3 : Hid (Below w2.heap.size w2 w3) := hb; have HB3 : Hid (Below w.heap.size w w3) := HB2.out.trans (hb3.out.mono HB2.out.size); have HC3 : Hid (Below w1.heap.size w1 w3) := HC2.out.trans (hb3.out.mono HC2.out.size); have cc3 := hC.out w3 HC3.out; clear hb))
  clear d3 HD3 cd3 ca3 kd3
  go_wp2_with fail
  have d4 : Hid (Below w3.heap.size w3 w3.drew) := below_drewN _ _ 1
  have HD4 : Hid (Below w1.heap.size w1 w3.drew) := HC3.out.trans (d4.out.mono HC3.out.size)
  have cd4 := hC.out w3.drew HD4.out
  have ca4 : ∀ o, (w3.drew.alloc o).cell? ⟨ob, oo, none⟩ = some (.slice a0 la.length c0) ∧ (w3.drew.alloc o).cell? ⟨ob, oo + 1, none⟩ = some (.slice a1 lb.length c1) := fun o => hC.out _ (HD4.out.alloc HD4.out.size _)
  have kd4 := Kg.out w3.drew HD4.out
  go_region_held3 (fun w' => w'.cell? ⟨ob, oo, none⟩ = some (.slice a0 la.length c0) ∧ w'.cell? ⟨ob, oo + 1, none⟩ = some (.slice a1 lb.length c1))
    (first | exact cc4 | exact cd4 | exact ca4 _)
    (first | (go_at_call 10; refine (meet2 w3.drew a0 c0 la a1 c1 lb ⟨kd4.1, by omega⟩ ⟨kd4.2, by omega⟩).mono ?_; rintro e w4 ⟨ar4, cr4, M4, rfl, hr, hs, hl, hbq⟩; have hb := (d4.out.trans (hbq.mono d4.out.size)); have K4 : Hid (Rd w4 ar4 cr4 M4 ∧ SetIs (fun x => x ∈ la ∧ x ∈ lb) M4 ∧ M4.length ≤ 1048576) := ⟨hr, hs, by omega⟩; clear hr hs hl hbq; have hb4 : Hid (Below w3.heap.size w3 w4) := hb; have HB4 : Hid (Below w.heap.size w w4) := HB3.out.trans (hb4.out.mono HB3.out.size); have HC4 : Hid (Below w1.heap.size w1 w4) := HC3.out.trans (hb4.out.mono HC3.out.size); have cc4 := hC.out w4 HC4.out; clear hb))
  clear d4 HD4 cd4 ca4 kd4
  go_wp2_with fail
  have d5 : Hid (Below w4.heap.size w4 w4.drew) := below_drewN _ _ 1
  have HD5 : Hid (Below w1.heap.size w1 w4.drew) := HC4.out.trans (d5.out.mono HC4.out.size)
  have cd5 := hC.out w4.drew HD5.out
  have ca5 : ∀ o, (w4.drew.alloc o).cell? ⟨ob, oo, none⟩ = some (.slice a0 la.length c0) ∧ (w4.drew.alloc o).cell? ⟨ob, oo + 1, none⟩ = some (.slice a1 lb.length c1) := fun o => hC.out _ (HD5.out.alloc HD5.out.size _)
  have kd5 := Kg.out w4.drew HD5.out
  go_region_held3 (fun w' => w'.cell? ⟨ob, oo, none⟩ = some (.slice a0 la.length c0) ∧ w'.cell? ⟨ob, oo + 1, none⟩ = some (.slice a1 lb.length c1))
    (first | exact cc5 | exact cd5 | exact ca5 _)
    (first | (go_at_call 17; refine (minus_lit w4.drew a0 la c0 a1 lb c1 ⟨kd5.1, by omega⟩ ⟨kd5.2, by omega⟩).mono ?_; rintro e w5 ⟨ar5, cr5, M5, rfl, hr, hs, hl, hbq⟩; have hb := (d5.out.trans (hbq.mono d5.out.size)); have K5 : Hid (Rd w5 ar5 cr5 M5 ∧ SetIs (fun x => x ∈ la ∧ x ∉ lb) M5 ∧ M5.length ≤ 1048576) := ⟨hr, hs, by omega⟩; clear hr hs hl hbq; have hb5 : Hid (Below w4.heap.size w4 w5) := hb; have HB5 : Hid (Below w.heap.size w w5) := HB4.out.trans (hb5.out.mono HB4.out.size); have HC5 : Hid (Below w1.heap.size w1 w5) := HC4.out.trans (hb5.out.mono HC4.out.size); have cc5 := hC.out w5 HC5.out; clear hb))
  clear d5 HD5 cd5 ca5 kd5
  go_wp2_with fail
  have hbI : Hid (∀ W, Below w.heap.size w W → Calls Try.prog 18 #[.slice aa la.length ca] W fun e w' => e = .returned (.bool (decide (Inc la))) ∧ Below W.heap.size W w') := fun W hW => by
    have hk := (Kin.out W hW).1
    refine (rises_any la aa ca W (by have := hk.2.2.2; omega) hk.1).mono ?_
    rintro e w' ⟨rfl, q, rfl⟩
    exact ⟨rfl, below_drewN _ _ _⟩
  have hbR : Hid (∀ W, Below w1.heap.size w1 W → Calls Try.prog 19 #[.slice a0 la.length c0] W fun e w' => e = .returned (.bool (decide (Inc la))) ∧ Below W.heap.size W w') := fun W hW => by
    have hk := (Kg.out W hW).1
    refine (rising_any la a0 c0 W (by have := hk.2.2.2; omega) hk.1).mono ?_
    rintro e w' ⟨rfl, q, rfl⟩
    exact ⟨rfl, below_drewN _ _ _⟩
  generalize decide (Inc la) = bI at *
  have hbb : (bI != bI) = false := by cases bI <;> rfl
  go_wp2_with (first
    | (refine (Hid.out HB10 |> fun _ => ?_); go_at_call 18; refine (hbI.out w10 HB10.out).mono ?_; rintro e w11 ⟨rfl, hb⟩; have hb11 : Hid (Below w10.heap.size w10 w11) := hb; have HB11 : Hid (Below w.heap.size w w11) := HB10.out.trans (hb11.out.mono HB10.out.size); have HC11 : Hid (Below w1.heap.size w1 w11) := HC10.out.trans (hb11.out.mono HC10.out.size); have cc11 := hC.out w11 HC11.out; clear hb)
    | (refine (Hid.out HB9 |> fun _ => ?_); go_at_call 19; refine (hbR.out w9 HC9.out).mono ?_; rintro e w10 ⟨rfl, hb⟩; have hb10 : Hid (Below w9.heap.size w9 w10) := hb; have HB10 : Hid (Below w.heap.size w w10) := HB9.out.trans (hb10.out.mono HB9.out.size); have HC10 : Hid (Below w1.heap.size w1 w10) := HC9.out.trans (hb10.out.mono HC9.out.size); have cc10 := hC.out w10 HC10.out; clear hb)
    | (refine (Hid.out HB8 |> fun _ => ?_); go_at_call 18; refine (rises_yes M5 ar5 cr5 w8 (((K5.out.1.below hb6.out).below hb7.out).below hb8.out) K5.out.2.1.1).mono ?_; rintro e w9 ⟨rfl, hb⟩; have hb9 : Hid (Below w8.heap.size w8 w9) := hb; have HB9 : Hid (Below w.heap.size w w9) := HB8.out.trans (hb9.out.mono HB8.out.size); have HC9 : Hid (Below w1.heap.size w1 w9) := HC8.out.trans (hb9.out.mono HC8.out.size); have cc9 := hC.out w9 HC9.out; clear hb)
    | (refine (Hid.out HB7 |> fun _ => ?_); go_at_call 18; refine (rises_yes M4 ar4 cr4 w7 (((K4.out.1.below hb5.out).below hb6.out).below hb7.out) K4.out.2.1.1).mono ?_; rintro e w8 ⟨rfl, hb⟩; have hb8 : Hid (Below w7.heap.size w7 w8) := hb; have HB8 : Hid (Below w.heap.size w w8) := HB7.out.trans (hb8.out.mono HB7.out.size); have HC8 : Hid (Below w1.heap.size w1 w8) := HC7.out.trans (hb8.out.mono HC7.out.size); have cc8 := hC.out w8 HC8.out; clear hb)
    | (refine (Hid.out HB6 |> fun _ => ?_); go_at_call 18; refine (rises_yes M3 ar3 cr3 w6 (((K3.out.1.below hb4.out).below hb5.out).below hb6.out) K3.out.2.1.1).mono ?_; rintro e w7 ⟨rfl, hb⟩; have hb7 : Hid (Below w6.heap.size w6 w7) := hb; have HB7 : Hid (Below w.heap.size w w7) := HB6.out.trans (hb7.out.mono HB6.out.size); have HC7 : Hid (Below w1.heap.size w1 w7) := HC6.out.trans (hb7.out.mono HC6.out.size); have cc7 := hC.out w7 HC7.out; clear hb)
    | (refine (Hid.out HB5 |> fun _ => ?_); go_at_call 18; refine (rises_yes M2 ar2 cr2 w5 (((K2.out.1.below hb3.out).below hb4.out).below hb5.out) K2.out.2.1.1).mono ?_; rintro e w6 ⟨rfl, hb⟩; have hb6 : Hid (Below w5.heap.size w5 w6) := hb; have HB6 : Hid (Below w.heap.size w w6) := HB5.out.trans (hb6.out.mono HB5.out.size); have HC6 : Hid (Below w1.heap.size w1 w6) := HC5.out.trans (hb6.out.mono HC5.out.size); have cc6 := hC.out w6 HC6.out; clear hb)
    | (refine (Hid.out HB11 |> fun _ => ?_); at_builtin; refine (Hid.out (p := _) ?_)))
  have k11 := Kin.out w11 HB11.out
  have r2 := (((((((((K2.out.1.below hb3.out).below hb4.out).below hb5.out).below hb6.out).below hb7.out).below hb8.out).below hb9.out).below hb10.out).below hb11.out)
  have r3 := ((((((((K3.out.1.below hb4.out).below hb5.out).below hb6.out).below hb7.out).below hb8.out).below hb9.out).below hb10.out).below hb11.out)
  have r4 := (((((((K4.out.1.below hb5.out).below hb6.out).below hb7.out).below hb8.out).below hb9.out).below hb10.out).below hb11.out)
  have r5 := ((((((K5.out.1.below hb6.out).below hb7.out).below hb8.out).below hb9.out).below hb10.out).below hb11.out)
  have z2 := K2.out.2.2
  have z3 := K3.out.2.2
  have z4 := K4.out.2.2
  have z5 := K5.out.2.2
  obtain ⟨v12, w12, e12, o12, b12⟩ := appendI_row w11 w11.heap.size (.slice none 0 0) [] la aa la.length ca (ownI_nil _ _) k11.1.1 rfl (Nat.le_refl _) (by simp; omega)
  rw [List.nil_append] at o12
  obtain ⟨v13, w13, e13, o13, b13⟩ := appendI_row w12 w11.heap.size v12 la lb ab lb.length cb o12 (k11.2.below b12).1 rfl b12.size (by omega)
  have b13' := b12.trans b13
  have b13a := b13'.alloc b13'.size (.cells #[.int .i64 x] 2)
  obtain ⟨v14, w14, e14, o14, b14⟩ := appendI_row (w13.alloc (.cells #[.int .i64 x] 2)) w11.heap.size v13 (la ++ lb) [x] (some ⟨w13.heap.size, 0, none⟩) 1 1 (World.ownsRow.alloc o13 _) (rd_lit w13 [x] 2 (by simp)).1 rfl b13a.size (by simp; omega)
  have b14' := b13a.trans b14
  obtain ⟨v15, w15, e15, o15, b15⟩ := appendI_row w14 w11.heap.size v14 _ M3 ar3 M3.length cr3 o14 (r3.below b14').1 rfl b14'.size (by simp; omega)
  have b15' := b14'.trans b15
  obtain ⟨v16, w16, e16, o16, b16⟩ := appendI_row w15 w11.heap.size v15 _ M4 ar4 M4.length cr4 o15 (r4.below b15').1 rfl b15'.size (by simp; omega)
  have b16' := b15'.trans b16
  obtain ⟨v17, w17, e17, o17, b17⟩ := appendI_row w16 w11.heap.size v16 _ M5 ar5 M5.length cr5 o16 (r5.below b16').1 rfl b16'.size (by simp; omega)
  have b17' := b16'.trans b17
  obtain ⟨v18, w18, e18, o18, b18⟩ := appendI_row w17 w11.heap.size v17 _ M2 ar2 M2.length cr2 o17 (r2.below b17').1 rfl b17'.size (by simp; omega)
  have b18' := b17'.trans b18
  have HB18 : Hid (Below w.heap.size w w18) := HB11.out.trans (b18'.mono HB11.out.size)
  obtain ⟨Y, hY⟩ : ∃ Y, la ++ lb ++ [x] ++ M3 ++ M4 ++ M5 ++ M2 = Y := ⟨_, rfl⟩
  rw [hY] at o18
  have hYl : Y.length ≤ 16777216 := by (rw [← hY]; simp; omega)
  obtain ⟨ya, yn, yc, rfl⟩ := ownI_slice o18
  obtain ⟨hrow, rfl⟩ := ownI_row o18
  have hE : Hid (NRow w18 ya Y ∧ Rd w18 aa ca la ∧ Rd w18 ab cb lb ∧ Rd w18 ar2 cr2 M2 ∧ Rd w18 ar3 cr3 M3 ∧ Rd w18 ar4 cr4 M4 ∧ Rd w18 ar5 cr5 M5) := ⟨hrow, k11.1.below b18', k11.2.below b18', r2.below b18', r3.below b18', r4.below b18', r5.below b18'⟩
  clear k11 r2 r3 r4 r5 z2 z3 z4 z5 o12 b12 o13 b13 b13' b13a o14 b14 b14' o15 b15 b15' o16 b16 b16' o17 b17 b17' o18 b18 b18' hY hrow
  unfold Hid
  go_wp2_with (first
    | (at_builtin; refine Lib.wpList_append_run _ rfl _ _ _ _ rfl _ _ rfl rfl _ _ e12 ?_; clear e12)
    | (at_builtin; refine Lib.wpList_append_run _ rfl _ _ _ _ rfl _ _ rfl rfl _ _ e13 ?_; clear e13)
    | (at_builtin; refine Lib.wpList_append_run _ rfl _ _ _ _ rfl _ _ rfl rfl _ _ e14 ?_; clear e14)
    | (at_builtin; refine Lib.wpList_append_run _ rfl _ _ _ _ rfl _ _ rfl rfl _ _ e15 ?_; clear e15)
    | (at_builtin; refine Lib.wpList_append_run _ rfl _ _ _ _ rfl _ _ rfl rfl _ _ e16 ?_; clear e16)
    | (at_builtin; refine Lib.wpList_append_run _ rfl _ _ _ _ rfl _ _ rfl rfl _ _ e17 ?_; clear e17)
    | (at_builtin; refine Lib.wpList_append_run _ rfl _ _ _ _ rfl _ _ rfl rfl _ _ e18 ?_; clear e18))
  go_loopw [13] (fun ivv wr => ∃ i : Nat, ivv = .int .i64 (i : Int) ∧ i ≤ Y.length ∧ w18 = wr) (fun ivv _ => Y.length - (intOf ivv).toNat)
  case atStart => exact ⟨0, rfl, Nat.zero_le _, rfl⟩
  case round =>
    obtain ⟨i, rfl, hi, rfl⟩ := hrel
    have i0 : (0 : Int) ≤ (i : Int) := Int.natCast_nonneg _
    by_cases hlt : i < Y.length
    · have i1 : (i : Int) < (Y.length : Int) := Int.ofNat_lt.2 hlt
      obtain ⟨yb, yo, rfl, cy⟩ := hE.out.1 i hlt
      have hlt' : Hid (i < Y.length) := hlt
      have ib : (i : Int) ≤ 16777216 := by omega
      generalize Y[i] = y at *
      clear hi hlt
      by_cases ha : y ∈ la
      · by_cases hbm : y ∈ lb
        · have T0 : Hid True := trivial
          go_wp2_with (first
            | (refine (Hid.out T5 |> fun _ => ?_); go_at_call 20; refine (stands_say M5 ar5 cr5 y w18 hE.out.2.2.2.2.2.2 false (by rw [K5.out.2.1.2]; simp [ha, hbm])).mono ?_; rintro e w' ⟨rfl, rfl⟩; have T6 : Hid True := trivial)
            | (refine (Hid.out T4 |> fun _ => ?_); go_at_call 20; refine (stands_say M4 ar4 cr4 y w18 hE.out.2.2.2.2.2.1 true (by rw [K4.out.2.1.2]; simp [ha, hbm])).mono ?_; rintro e w' ⟨rfl, rfl⟩; have T5 : Hid True := trivial)
            | (refine (Hid.out T3 |> fun _ => ?_); go_at_call 20; refine (stands_say M3 ar3 cr3 y w18 hE.out.2.2.2.2.1 true (by rw [K3.out.2.1.2]; simp [ha, hbm])).mono ?_; rintro e w' ⟨rfl, rfl⟩; have T4 : Hid True := trivial)
            | (refine (Hid.out T2 |> fun _ => ?_); go_at_call 20; refine (stands_say M2 ar2 cr2 y w18 hE.out.2.2.2.1 true (by rw [K2.out.2.1.2]; simp [ha])).mono ?_; rintro e w' ⟨rfl, rfl⟩; have T3 : Hid True := trivial)
            | (refine (Hid.out T1 |> fun _ => ?_); go_at_call 20; refine (stands_say lb ab cb y w18 hE.out.2.2.1 true (by simp [hbm])).mono ?_; rintro e w' ⟨rfl, rfl⟩; have T2 : Hid True := trivial)
            | (refine (Hid.out T0 |> fun _ => ?_); go_at_call 20; refine (stands_say la aa ca y w18 hE.out.2.1 true (by simp [ha])).mono ?_; rintro e w' ⟨rfl, rfl⟩; have T1 : Hid True := trivial))
          go_roundw
          case rel => exact ⟨i + 1, by simp, hlt'.out, trivial⟩
          case measure => have := hlt'.out; simp [intOf]; omega
        · have T0 : Hid True := trivial
          go_wp2_with (first
            | (refine (Hid.out T5 |> fun _ => ?_); go_at_call 20; refine (stands_say M5 ar5 cr5 y w18 hE.out.2.2.2.2.2.2 true (by rw [K5.out.2.1.2]; simp [ha, hbm])).mono ?_; rintro e w' ⟨rfl, rfl⟩; have T6 : Hid True := trivial)
            | (refine (Hid.out T4 |> fun _ => ?_); go_at_call 20; refine (stands_say M4 ar4 cr4 y w18 hE.out.2.2.2.2.2.1 false (by rw [K4.out.2.1.2]; simp [ha, hbm])).mono ?_; rintro e w' ⟨rfl, rfl⟩; have T5 : Hid True := trivial)
            | (refine (Hid.out T3 |> fun _ => ?_); go_at_call 20; refine (stands_say M3 ar3 cr3 y w18 hE.out.2.2.2.2.1 true (by rw [K3.out.2.1.2]; simp [ha, hbm])).mono ?_; rintro e w' ⟨rfl, rfl⟩; have T4 : Hid True := trivial)
            | (refine (Hid.out T2 |> fun _ => ?_); go_at_call 20; refine (stands_say M2 ar2 cr2 y w18 hE.out.2.2.2.1 true (by rw [K2.out.2.1.2]; simp [ha])).mono ?_; rintro e w' ⟨rfl, rfl⟩; have T3 : Hid True := trivial)
            | (refine (Hid.out T1 |> fun _ => ?_); go_at_call 20; refine (stands_say lb ab cb y w18 hE.out.2.2.1 false (by simp [hbm])).mono ?_; rintro e w' ⟨rfl, rfl⟩; have T2 : Hid True := trivial)
            | (refine (Hid.out T0 |> fun _ => ?_); go_at_call 20; refine (stands_say la aa ca y w18 hE.out.2.1 true (by simp [ha])).mono ?_; rintro e w' ⟨rfl, rfl⟩; have T1 : Hid True := trivial))
          go_roundw
          case rel => exact ⟨i + 1, by simp, hlt'.out, trivial⟩
          case measure => have := hlt'.out; simp [intOf]; omega
      · by_cases hbm : y ∈ lb
        · have T0 : Hid True := trivial
          go_wp2_with (first
            | (refine (Hid.out T5 |> fun _ => ?_); go_at_call 20; refine (stands_say M5 ar5 cr5 y w18 hE.out.2.2.2.2.2.2 false (by rw [K5.out.2.1.2]; simp [ha, hbm])).mono ?_; rintro e w' ⟨rfl, rfl⟩; have T6 : Hid True := trivial)
            | (refine (Hid.out T4 |> fun _ => ?_); go_at_call 20; refine (stands_say M4 ar4 cr4 y w18 hE.out.2.2.2.2.2.1 false (by rw [K4.out.2.1.2]; simp [ha, hbm])).mono ?_; rintro e w' ⟨rfl, rfl⟩; have T5 : Hid True := trivial)
            | (refine (Hid.out T3 |> fun _ => ?_); go_at_call 20; refine (stands_say M3 ar3 cr3 y w18 hE.out.2.2.2.2.1 true (by rw [K3.out.2.1.2]; simp [ha, hbm])).mono ?_; rintro e w' ⟨rfl, rfl⟩; have T4 : Hid True := trivial)
            | (refine (Hid.out T2 |> fun _ => ?_); go_at_call 20; refine (stands_say M2 ar2 cr2 y w18 hE.out.2.2.2.1 false (by rw [K2.out.2.1.2]; simp [ha])).mono ?_; rintro e w' ⟨rfl, rfl⟩; have T3 : Hid True := trivial)
            | (refine (Hid.out T1 |> fun _ => ?_); go_at_call 20; refine (stands_say lb ab cb y w18 hE.out.2.2.1 true (by simp [hbm])).mono ?_; rintro e w' ⟨rfl, rfl⟩; have T2 : Hid True := trivial)
            | (refine (Hid.out T0 |> fun _ => ?_); go_at_call 20; refine (stands_say la aa ca y w18 hE.out.2.1 false (by simp [ha])).mono ?_; rintro e w' ⟨rfl, rfl⟩; have T1 : Hid True := trivial))
          go_roundw
          case rel => exact ⟨i + 1, by simp, hlt'.out, trivial⟩
          case measure => have := hlt'.out; simp [intOf]; omega
        · have T0 : Hid True := trivial
          go_wp2_with (first
            | (refine (Hid.out T5 |> fun _ => ?_); go_at_call 20; refine (stands_say M5 ar5 cr5 y w18 hE.out.2.2.2.2.2.2 false (by rw [K5.out.2.1.2]; simp [ha, hbm])).mono ?_; rintro e w' ⟨rfl, rfl⟩; have T6 : Hid True := trivial)
            | (refine (Hid.out T4 |> fun _ => ?_); go_at_call 20; refine (stands_say M4 ar4 cr4 y w18 hE.out.2.2.2.2.2.1 false (by rw [K4.out.2.1.2]; simp [ha, hbm])).mono ?_; rintro e w' ⟨rfl, rfl⟩; have T5 : Hid True := trivial)
            | (refine (Hid.out T3 |> fun _ => ?_); go_at_call 20; refine (stands_say M3 ar3 cr3 y w18 hE.out.2.2.2.2.1 false (by rw [K3.out.2.1.2]; simp [ha, hbm])).mono ?_; rintro e w' ⟨rfl, rfl⟩; have T4 : Hid True := trivial)
            | (refine (Hid.out T2 |> fun _ => ?_); go_at_call 20; refine (stands_say M2 ar2 cr2 y w18 hE.out.2.2.2.1 false (by rw [K2.out.2.1.2]; simp [ha])).mono ?_; rintro e w' ⟨rfl, rfl⟩; have T3 : Hid True := trivial)
            | (refine (Hid.out T1 |> fun _ => ?_); go_at_call 20; refine (stands_say lb ab cb y w18 hE.out.2.2.1 false (by simp [hbm])).mono ?_; rintro e w' ⟨rfl, rfl⟩; have T2 : Hid True := trivial)
            | (refine (Hid.out T0 |> fun _ => ?_); go_at_call 20; refine (stands_say la aa ca y w18 hE.out.2.1 false (by simp [ha])).mono ?_; rintro e w' ⟨rfl, rfl⟩; have T1 : Hid True := trivial))
          go_roundw
          case rel => exact ⟨i + 1, by simp, hlt'.out, trivial⟩
          case measure => have := hlt'.out; simp [intOf]; omega
    · have e : i = Y.length := by omega
      subst e
      have i1 : ¬ (Y.length : Int) < (Y.length : Int) := by omega
      clear hi hlt
      go_wp2_with fail
      go_ret
      exact ⟨rfl, HB18.out⟩
end Go.Proofs.Ytmkmfnbjmakebaa
