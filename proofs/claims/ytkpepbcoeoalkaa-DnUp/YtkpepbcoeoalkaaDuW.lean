import Derived.Test.YtkpepbcoeoalkaaDuM
namespace Go.Proofs.Ytkpepbcoeoalkaa
namespace Du
open Go.RowKit Go.Shelf
set_option linter.unusedVariables false
set_option maxRecDepth 1000000
attribute [local go_sem] Oper.semAt_some

theorem store_fn (w : World) (v : Value) (hv : v.oneCell' = true) : (store ⟨w.heap.size, 0, none⟩ v).run Try.prog (w.alloc (.cells #[.nilFunc] 28)) = .ok () (w.alloc (.cells #[v] 28)) := by
  have hb : Bx (w.alloc (.cells #[.nilFunc] 28)) w.heap.size 28 .nilFunc := Bx.new w _ _
  have hc := hb.cell
  have hf := hb.frozen
  rw [run_store Try.prog _ _ _ _ hv, hc]
  simp only [hf, Bool.false_eq_true, if_false]
  congr 1
  simp only [World.setCell, World.alloc]
  congr 1
  apply Array.ext_getElem?
  intro i
  rw [Array.getElem?_modify]
  by_cases h : w.heap.size = i
  · subst h
    simp
  · have h' : ¬ i = w.heap.size := fun e => h e.symm
    simp [h, h', Array.getElem?_push]
theorem fn_nil (kb : Nat) (W : World) : (binOp BinOp.eql 28 (.func (.func 11) #[] #[.pointer (some ⟨kb, 0, none⟩)]) .nilFunc).run Try.prog W = .ok (.bool false) W := by kernel_rfl
/-- A result that lies in a box: a bool. -/
theorem results_b {fn : Func} {p : Tmp} (h : fn.results = #[.cell p 4]) (tmps : Array Value) (w : World) (g : Nat) (v : Value) (hp : tmps.getD p undef = .pointer (some ⟨g, 0, none⟩)) (hg : Bx w g 4 v) : (results fn tmps).run Try.prog w = .ok v w := by
  have hc := hg.cell
  have hA : (isAgg 4).run Try.prog w = .ok false w := by
    unfold isAgg
    simp only [Sem.run_bind, run_underlying Try.underlying4, Result.andThen_ok]
    rfl
  have h1 : (loadVar 4 ⟨g, 0, none⟩).run Try.prog w = .ok v w := by simp [loadVar, hA, go_sem, hc]
  have hp' : tmps[p]?.getD undef = .pointer (some ⟨g, 0, none⟩) := by simpa using hp
  simp [results, h, hp', asAddr, h1]
theorem bx_put {W : World} {b d : Nat} {t : TypeId} {v : Value} (h : Bx W b t v) (o : Obj) (hne : b ≠ d) : Bx (W.putObj d o) b t v := (World.putObj_heap_other hne).trans h
theorem below_put {B : Nat} {w W : World} (h : Below B w W) (d : Nat) (o : Obj) (hd : B ≤ d) : Below B w (W.putObj d o) :=
  ⟨h.os, h.tape, h.output, Nat.le_trans h.size (by simp [World.putObj]), fun k hk => (World.putObj_heap_other (by omega)).trans (h.block k hk)⟩

set_option maxHeartbeats 8000000 in
theorem dnUp_walk (sa : Option Addr) (sc : Nat) (L : List PX) (n : Nat) (st : Int) (w : World) (hn : L.length = n) (hr : DRow w sa L) (hc : n ≤ sc) (hl : n ≤ 5864062014634) (hz : ∀ r ∈ L, r.2.2.length ≤ 4398046510976) :
    Calls Try.prog 3 #[.slice sa n sc, .int .i64 st] w fun e w' => e = .returned (.bool true) ∧ Below w.heap.size w w' := by
  obtain ⟨Wa, hWa⟩ : ∃ Wa, (w.alloc (.cells #[.int .i64 st] 3)).alloc (.cells #[.bool false] 4) = Wa := ⟨_, rfl⟩
  have hba : Below w.heap.size w Wa := by rw [← hWa]; exact ((Below.refl _ _).alloc (Nat.le_refl _) _).alloc (by simp) _
  have hza : Wa.heap.size = w.heap.size + 2 := by rw [← hWa]; simp
  have hbm : Bx Wa w.heap.size 3 (.int .i64 st) := by
    rw [← hWa]
    exact (Bx.new w _ _).below ((Below.refl _ _).alloc (Nat.le_refl _) _) (by simp)
  have hbr : Bx Wa (w.heap.size + 1) 4 (.bool false) := by
    rw [← hWa]
    have := Bx.new (w.alloc (.cells #[.int .i64 st] 3)) 4 (.bool false)
    rwa [World.size_alloc] at this
  have hIn : Hid (DRow w sa L ∧ L.length = n ∧ n ≤ sc ∧ n ≤ 5864062014634 ∧ (∀ r ∈ L, r.2.2.length ≤ 4398046510976)) := ⟨hr, hn, hc, hl, hz⟩
  have hA : Hid (Below w.heap.size w Wa ∧ Wa.heap.size = w.heap.size + 2 ∧ Bx Wa w.heap.size 3 (.int .i64 st) ∧ Bx Wa (w.heap.size + 1) 4 (.bool false)) := ⟨hba, hza, hbm, hbr⟩
  have nb : (n : Int) ≤ 5864062014634 := by omega
  have hU : Hid (Calls Try.prog 4 #[.slice sa n sc] Wa fun e w' => ∃ oa oc, e = .returned (.slice oa (n + 1) oc) ∧ GOwn 23 1 yV w' Wa.heap.size (.slice oa (n + 1) oc) (upl sa sc L (n + 1)) ∧ Below Wa.heap.size Wa w') := refUp_any sa sc L n Wa hn hl
  have hCp : Hid (∀ W, Below w.heap.size w W → Calls Try.prog 5 #[.slice sa n sc] W fun e w' => ∃ a c Os, e = .returned (.slice a n c) ∧ CpQ W L n a c Os w') := fun W hW => copyDN_any sa sc L n W hn (hr.below hW) hz hl
  have hDu : Hid (∀ W0 W a c Os, CpQ W0 L n a c Os W → Calls Try.prog 6 #[.slice a n c] W fun e w' => ∃ kb Ks, e = .returned (.func (.func 11) #[] #[.pointer (some ⟨kb, 0, none⟩)]) ∧ Kept W.heap.size kb W.heap.size n Ks w' ∧ sd Ks = sd Os ∧ Below W.heap.size W w') := fun W0 W a c Os hQ => by
    refine up_any a c Os n W hQ.1 hQ.grow.1 (fun r hr => ?_) hl
    obtain ⟨i, hi, rfl⟩ := List.mem_iff_getElem.1 hr
    have hiL : i < L.length := by have := hQ.1; omega
    rw [hQ.2.2.2.2.1 i hi hiL]
    exact hz _ (List.getElem_mem hiL)
  have hSp : Hid (∀ W0 W a c Os, Below w.heap.size w W → CpQ W0 L n a c Os W → Calls Try.prog 7 #[.slice a n c, .slice sa n sc] W fun e w' => e = .returned (.bool true) ∧ ∃ q, w' = W.drewN q) := fun W0 W a c Os hW hQ => spared_any W0 a sa c sc Os L n W hn hz hl (hr.below hW) hQ
  clear hba hza hbm hbr hn hr hc hl hz
  refine (callsIn_wide (n := 8)).1 ?_
  refine callsIn_of_wp_marks Try.func3 rfl trivial ?_ rfl
  simp only [Try.ntmps3, List.size_toArray, List.length_cons, List.length_nil, Nat.reduceAdd, Nat.reduceSub, Array.replicate_succ, Array.replicate_zero, List.push_toArray, List.append_toArray, List.nil_append, List.cons_append]
  gi_wp2_with (first
    | (refine (Hid.out hCh |> fun _ => ?_); refine ⟨trivial, ?_⟩; gi_at_call 8; refine (callsIn_wide.2 (hCh.out.mark q)).mono ?_; rintro e w6 ⟨⟨mv, rfl⟩, hMd⟩; have hMd' : Hid (Md wb.heap.size w2.heap.size (w4.drewN q) w6) := hMd; have hbq := (hCh.out.bs q hMd).1.1.2.2; have cq6 : w6.cell? ⟨w3.heap.size, 0, none⟩ = some (.func (.func 11) #[] #[.pointer (some ⟨kb, 0, none⟩)]) := hbq.cell; have cqA : (w6.alloc (.cells #[.int .i64 0] 3)).cell? ⟨w3.heap.size, 0, none⟩ = some (.func (.func 11) #[] #[.pointer (some ⟨kb, 0, none⟩)]) := (hbq.below ((Below.refl w6.heap.size w6).alloc (Nat.le_refl _) (.cells #[.int .i64 0] 3)) hbq.lt).cell; clear hMd hbq)
    | (refine (Hid.out hCh |> fun _ => ?_); refine ⟨trivial, ?_⟩; gi_at_call 7; refine (callsIn_wide.2 (hSp.out wb w4 a c Os hB4.out.1 hB4.out.2)).mono ?_; rintro e w5 ⟨rfl, q, rfl⟩)
    | (refine (Hid.out hQ2 |> fun _ => ?_); refine ⟨trivial, ?_⟩; gi_at_call 6; refine (callsIn_wide.2 (hDu.out wb w2 a c Os hQ2.out)).mono ?_; rintro e w3 ⟨kb, Ks, rfl, hK1, hK2, hK3⟩; obtain ⟨w4, hw4⟩ : ∃ w4, w3.alloc (.cells #[.func (.func 11) #[] #[.pointer (some ⟨kb, 0, none⟩)]] 28) = w4 := ⟨_, rfl⟩; have hCh : Hid (Ch w Wa w1 wb w2 w3 w4 sa sc L n st oa oc a c Os kb Ks) := ⟨hIn.out, hA.out, hW1.out, hwb, hQ2.out, ⟨hK1, hK2, hK3⟩, hw4⟩; have b24 : Below w2.heap.size w2 w4 := (by rw [← hw4]; exact hK3.alloc hK3.size _); have hB4 : Hid (Below w.heap.size w w4 ∧ CpQ wb L n a c Os w4) := ⟨hB2.out.trans (b24.mono hB2.out.size), hQ2.out.below b24⟩; have hsf := store_fn w3 (.func (.func 11) #[] #[.pointer (some ⟨kb, 0, none⟩)]) rfl; rw [hw4] at hsf; have cq4 : w4.cell? ⟨w3.heap.size, 0, none⟩ = some (.func (.func 11) #[] #[.pointer (some ⟨kb, 0, none⟩)]) := (by rw [← hw4]; exact (Bx.new w3 _ _).cell); have hfn := fn_nil kb; clear hK1 hK2 hK3 b24 hw4)
    | (refine (Hid.out hW1 |> fun _ => ?_); refine ⟨trivial, ?_⟩; gi_at_call 5; refine (callsIn_wide.2 (hCp.out wb hBb.out)).mono ?_; rintro e w2 ⟨a, c, Os, rfl, hQ⟩; have hQ2 : Hid (CpQ wb L n a c Os w2) := hQ; have hB2 : Hid (Below w.heap.size w w2) := hBb.out.trans (hQ.2.2.2.2.2.2.1.mono hBb.out.size); clear hQ)
    | (refine ⟨trivial, ?_⟩; gi_at_call 4; refine (callsIn_wide.2 hU.out).mono ?_; rintro e w1 ⟨oa, oc, rfl, hq1, hq2⟩; have hW1 : Hid (GOwn 23 1 yV w1 Wa.heap.size (.slice oa (n + 1) oc) (upl sa sc L (n + 1)) ∧ Below Wa.heap.size Wa w1) := ⟨hq1, hq2⟩; obtain ⟨wb, hwb⟩ : ∃ wb, w1.alloc (.cells #[.slice oa (n + 1) oc] 24) = wb := ⟨_, rfl⟩; have hBb : Hid (Below w.heap.size w wb) := (by have h1 := hA.out.1.trans (hq2.mono hA.out.1.size); rw [← hwb]; exact h1.alloc h1.size _); clear hq1 hq2))
  have hBs : Hid (Bs w.heap.size w1.heap.size w3.heap.size oa oc n sa sc L Ks w2.heap.size w3.heap.size kb w2.heap.size st w6 ∧ Bx w6 (w.heap.size + 1) 4 (.bool false) ∧ Below w.heap.size w w6 ∧ w.heap.size + 2 ≤ w6.heap.size) := hCh.out.bs q hMd'.out
  have hzA : Hid ((w6.alloc (.cells #[.int .i64 0] 3)).heap.size = w6.heap.size + 1) := by unfold Hid; simp
  have hI1 : RgI w6 (w6.alloc (.cells #[.int .i64 0] 3)) [] (w6.alloc (.cells #[.int .i64 0] 3)) := ⟨Bx.new _ _ _, (Below.refl _ _).alloc (Nat.le_refl _) _, fun k o h1 _ => h1, Nat.le_refl _⟩
  clear hCh hMd' hU hCp hDu hSp hIn hA hW1 hwb hBb hQ2 hB2 hB4 hsf cq4 hfn hWa
  refine range_one w6 (w6.alloc (.cells #[.int .i64 0] 3)) w.heap.size w1.heap.size w3.heap.size oa oc n sa sc L Ks w2.heap.size w3.heap.size kb w2.heap.size st [] _ hBs.out.1 hI1 ?hn ?hx _ (by kernel_rfl)
  case hn =>
    intro d W' hd _ hb hB hnc hK
    clear hI1
    have cn : W'.cell? ⟨w6.heap.size, 0, none⟩ = some (.int .i64 ((n : Int) + 1)) := hb.cell
    have fz : W'.frozen? ⟨w6.heap.size, 0, none⟩ = false := hb.frozen
    have cw : W'.cell? ⟨w1.heap.size, 0, none⟩ = some (.slice oa (n + 1) oc) := (hBs.out.1.1.2.1.below hB hBs.out.1.1.2.1.lt).cell
    have cs : W'.cell? ⟨w.heap.size, 0, none⟩ = some (.int .i64 st) := (hBs.out.1.1.1.below hB hBs.out.1.1.1.lt).cell
    obtain ⟨A2, hA2⟩ : ∃ A2, W'.setCell ⟨w6.heap.size, 0, none⟩ (.int .i64 0) = A2 := ⟨_, rfl⟩
    have hB2 : Below w6.heap.size w6 A2 := by rw [← hA2]; exact hB.setCell (p := ⟨w6.heap.size, 0, none⟩) (Nat.le_refl _) _
    have cq2 : A2.cell? ⟨w3.heap.size, 0, none⟩ = some (.func (.func 11) #[] #[.pointer (some ⟨kb, 0, none⟩)]) := (hBs.out.1.1.2.2.below hB2 hBs.out.1.1.2.2.lt).cell
    have hI2 : Hid (RgI w6 A2 [] A2) := ⟨by rw [← hA2]; exact hb.set _, hB2, fun k o h1 _ => h1, Nat.le_refl _⟩
    have hd1 : Hid (w6.heap.size < d ∧ d < A2.heap.size ∧ A2.heap[d]? = some (.deferred (some []))) := by
      have g1 := (Array.getElem?_eq_some_iff.1 hK).1
      have g2 : w6.heap.size < d := by have := hzA.out; omega
      refine ⟨g2, by rw [← hA2]; simpa using g1, ?_⟩
      rw [← hA2]
      exact (Below.heap_setCell _ _ _ _ (show d ≠ w6.heap.size by omega)).trans hK
    clear hb hB hnc hK hd hB2 cq6 cqA
    gi_wp2
    refine range_two w6 A2 w.heap.size w1.heap.size w3.heap.size oa oc n sa sc L Ks w2.heap.size w3.heap.size kb w2.heap.size st _ _ hBs.out.1 hI2.out ?_ _ (by kernel_rfl)
    intro d2 W9 hd2 _ hb9 hB9 hnc9 hK9
    have cn9 : W9.cell? ⟨w6.heap.size, 0, none⟩ = some (.int .i64 ((n : Int) + 1)) := hb9.cell
    have cw9 : W9.cell? ⟨w1.heap.size, 0, none⟩ = some (.slice oa (n + 1) oc) := (hBs.out.1.1.2.1.below hB9 hBs.out.1.1.2.1.lt).cell
    have hrb := hBs.out.2.1.below hB9 hBs.out.2.1.lt
    have cr := hrb.cell
    have fr := hrb.frozen
    have hrb' : Hid (Bx W9 (w.heap.size + 1) 4 (.bool false) ∧ Below w.heap.size w W9 ∧ w.heap.size + 2 ≤ w6.heap.size ∧ W9.heap[d]? = some (.deferred (some [])) ∧ W9.heap[d2]? = some (.deferred (some [])) ∧ d < d2 ∧ w6.heap.size < d) := ⟨hrb, hBs.out.2.2.1.trans (hB9.mono hBs.out.2.2.1.size), hBs.out.2.2.2, hnc9 _ _ hd1.out.2.2 rfl, hK9, by have := hd1.out.2.1; omega, hd1.out.1⟩
    clear hrb hb9 hB9 hnc9 hK9 hd2 cn fz cw cs cq2 hA2 hI2 hd1
    gi_wp2
    obtain ⟨m1, m2, m3, m4, m5, m6, m7⟩ := hrb'.out
    have x1 : Bx (W9.setCell ⟨w.heap.size + 1, 0, none⟩ (.bool true)) (w.heap.size + 1) 4 (.bool true) := m1.set _
    have x2 : Below w.heap.size w (W9.setCell ⟨w.heap.size + 1, 0, none⟩ (.bool true)) := m2.setCell (by show w.heap.size ≤ w.heap.size + 1; omega) _
    have y1 := (Below.heap_setCell W9 ⟨w.heap.size + 1, 0, none⟩ (.bool true) d (by show d ≠ w.heap.size + 1; omega)).trans m4
    have y2 := (Below.heap_setCell W9 ⟨w.heap.size + 1, 0, none⟩ (.bool true) d2 (by show d2 ≠ w.heap.size + 1; omega)).trans m5
    generalize (W9.setCell ⟨w.heap.size + 1, 0, none⟩ (.bool true)) = Z at *
    refine ⟨by simp, .inl ⟨_, _, rfl, run_takeDeferred y2, ?_⟩⟩
    refine ⟨by simp, .inl ⟨_, _, rfl, run_takeDeferred ((World.putObj_heap_other (by omega)).trans y1), ?_⟩⟩
    exact ⟨_, results_b rfl _ _ (w.heap.size + 1) (.bool true) rfl (bx_put (bx_put x1 _ (by omega)) _ (by omega)), rfl, below_put (below_put x2 _ _ (by omega)) _ _ (by omega)⟩
  case hx =>
    intro d W' hd hb hB hnc hK
    clear hI1
    by_cases hsn : st = (n : Int) + 1
    · have b1 : (st == (n : Int) + 1) = true := beq_iff_eq.2 hsn
      have b2 : (st != (n : Int) + 1) = false := by rw [bne, b1]; rfl
      clear hsn
      have cn : W'.cell? ⟨w6.heap.size, 0, none⟩ = some (.int .i64 (st)) := hb.cell
      have fz : W'.frozen? ⟨w6.heap.size, 0, none⟩ = false := hb.frozen
      have cw : W'.cell? ⟨w1.heap.size, 0, none⟩ = some (.slice oa (n + 1) oc) := (hBs.out.1.1.2.1.below hB hBs.out.1.1.2.1.lt).cell
      have cs : W'.cell? ⟨w.heap.size, 0, none⟩ = some (.int .i64 st) := (hBs.out.1.1.1.below hB hBs.out.1.1.1.lt).cell
      obtain ⟨A2, hA2⟩ : ∃ A2, W'.setCell ⟨w6.heap.size, 0, none⟩ (.int .i64 0) = A2 := ⟨_, rfl⟩
      have hB2 : Below w6.heap.size w6 A2 := by rw [← hA2]; exact hB.setCell (p := ⟨w6.heap.size, 0, none⟩) (Nat.le_refl _) _
      have cq2 : A2.cell? ⟨w3.heap.size, 0, none⟩ = some (.func (.func 11) #[] #[.pointer (some ⟨kb, 0, none⟩)]) := (hBs.out.1.1.2.2.below hB2 hBs.out.1.1.2.2.lt).cell
      have hI2 : Hid (RgI w6 A2 [] A2) := ⟨by rw [← hA2]; exact hb.set _, hB2, fun k o h1 _ => h1, Nat.le_refl _⟩
      have hd1 : Hid (w6.heap.size < d ∧ d < A2.heap.size ∧ A2.heap[d]? = some (.deferred (some []))) := by
        have g1 := (Array.getElem?_eq_some_iff.1 hK).1
        have g2 : w6.heap.size < d := by have := hzA.out; omega
        refine ⟨g2, by rw [← hA2]; simpa using g1, ?_⟩
        rw [← hA2]
        exact (Below.heap_setCell _ _ _ _ (show d ≠ w6.heap.size by omega)).trans hK
      clear hb hB hnc hK hd hB2 cq6 cqA
      gi_wp2
      refine range_two w6 A2 w.heap.size w1.heap.size w3.heap.size oa oc n sa sc L Ks w2.heap.size w3.heap.size kb w2.heap.size st _ _ hBs.out.1 hI2.out ?_ _ (by kernel_rfl)
      intro d2 W9 hd2 _ hb9 hB9 hnc9 hK9
      have cn9 : W9.cell? ⟨w6.heap.size, 0, none⟩ = some (.int .i64 ((n : Int) + 1)) := hb9.cell
      have cw9 : W9.cell? ⟨w1.heap.size, 0, none⟩ = some (.slice oa (n + 1) oc) := (hBs.out.1.1.2.1.below hB9 hBs.out.1.1.2.1.lt).cell
      have hrb := hBs.out.2.1.below hB9 hBs.out.2.1.lt
      have cr := hrb.cell
      have fr := hrb.frozen
      have hrb' : Hid (Bx W9 (w.heap.size + 1) 4 (.bool false) ∧ Below w.heap.size w W9 ∧ w.heap.size + 2 ≤ w6.heap.size ∧ W9.heap[d]? = some (.deferred (some [])) ∧ W9.heap[d2]? = some (.deferred (some [])) ∧ d < d2 ∧ w6.heap.size < d) := ⟨hrb, hBs.out.2.2.1.trans (hB9.mono hBs.out.2.2.1.size), hBs.out.2.2.2, hnc9 _ _ hd1.out.2.2 rfl, hK9, by have := hd1.out.2.1; omega, hd1.out.1⟩
      clear hrb hb9 hB9 hnc9 hK9 hd2 cn fz cw cs cq2 hA2 hI2 hd1
      gi_wp2
      obtain ⟨m1, m2, m3, m4, m5, m6, m7⟩ := hrb'.out
      have x1 : Bx (W9.setCell ⟨w.heap.size + 1, 0, none⟩ (.bool true)) (w.heap.size + 1) 4 (.bool true) := m1.set _
      have x2 : Below w.heap.size w (W9.setCell ⟨w.heap.size + 1, 0, none⟩ (.bool true)) := m2.setCell (by show w.heap.size ≤ w.heap.size + 1; omega) _
      have y1 := (Below.heap_setCell W9 ⟨w.heap.size + 1, 0, none⟩ (.bool true) d (by show d ≠ w.heap.size + 1; omega)).trans m4
      have y2 := (Below.heap_setCell W9 ⟨w.heap.size + 1, 0, none⟩ (.bool true) d2 (by show d2 ≠ w.heap.size + 1; omega)).trans m5
      generalize (W9.setCell ⟨w.heap.size + 1, 0, none⟩ (.bool true)) = Z at *
      refine ⟨by simp, .inl ⟨_, _, rfl, run_takeDeferred y2, ?_⟩⟩
      refine ⟨by simp, .inl ⟨_, _, rfl, run_takeDeferred ((World.putObj_heap_other (by omega)).trans y1), ?_⟩⟩
      exact ⟨_, results_b rfl _ _ (w.heap.size + 1) (.bool true) rfl (bx_put (bx_put x1 _ (by omega)) _ (by omega)), rfl, below_put (below_put x2 _ _ (by omega)) _ _ (by omega)⟩
    · have b1 : (st == (n : Int) + 1) = false := beq_eq_false_iff_ne.2 hsn
      have b2 : (st != (n : Int) + 1) = true := by rw [bne, b1]; rfl
      have cn : W'.cell? ⟨w6.heap.size, 0, none⟩ = some (.int .i64 (st)) := hb.cell
      have fz : W'.frozen? ⟨w6.heap.size, 0, none⟩ = false := hb.frozen
      have cw : W'.cell? ⟨w1.heap.size, 0, none⟩ = some (.slice oa (n + 1) oc) := (hBs.out.1.1.2.1.below hB hBs.out.1.1.2.1.lt).cell
      have cs : W'.cell? ⟨w.heap.size, 0, none⟩ = some (.int .i64 st) := (hBs.out.1.1.1.below hB hBs.out.1.1.1.lt).cell
      obtain ⟨A2, hA2⟩ : ∃ A2, W'.setCell ⟨w6.heap.size, 0, none⟩ (.int .i64 0) = A2 := ⟨_, rfl⟩
      have hB2 : Below w6.heap.size w6 A2 := by rw [← hA2]; exact hB.setCell (p := ⟨w6.heap.size, 0, none⟩) (Nat.le_refl _) _
      have cq2 : A2.cell? ⟨w3.heap.size, 0, none⟩ = some (.func (.func 11) #[] #[.pointer (some ⟨kb, 0, none⟩)]) := (hBs.out.1.1.2.2.below hB2 hBs.out.1.1.2.2.lt).cell
      have hI2 : Hid (RgI w6 A2 [] A2) := ⟨by rw [← hA2]; exact hb.set _, hB2, fun k o h1 _ => h1, Nat.le_refl _⟩
      have hd1 : Hid (w6.heap.size < d ∧ d < A2.heap.size ∧ A2.heap[d]? = some (.deferred (some []))) := by
        have g1 := (Array.getElem?_eq_some_iff.1 hK).1
        have g2 : w6.heap.size < d := by have := hzA.out; omega
        refine ⟨g2, by rw [← hA2]; simpa using g1, ?_⟩
        rw [← hA2]
        exact (Below.heap_setCell _ _ _ _ (show d ≠ w6.heap.size by omega)).trans hK
      clear hb hB hnc hK hd hB2 cq6 cqA
      gi_wp2
      refine range_two w6 A2 w.heap.size w1.heap.size w3.heap.size oa oc n sa sc L Ks w2.heap.size w3.heap.size kb w2.heap.size st _ _ hBs.out.1 hI2.out ?_ _ (by kernel_rfl)
      intro d2 W9 hd2 _ hb9 hB9 hnc9 hK9
      have cn9 : W9.cell? ⟨w6.heap.size, 0, none⟩ = some (.int .i64 ((n : Int) + 1)) := hb9.cell
      have cw9 : W9.cell? ⟨w1.heap.size, 0, none⟩ = some (.slice oa (n + 1) oc) := (hBs.out.1.1.2.1.below hB9 hBs.out.1.1.2.1.lt).cell
      have hrb := hBs.out.2.1.below hB9 hBs.out.2.1.lt
      have cr := hrb.cell
      have fr := hrb.frozen
      have hrb' : Hid (Bx W9 (w.heap.size + 1) 4 (.bool false) ∧ Below w.heap.size w W9 ∧ w.heap.size + 2 ≤ w6.heap.size ∧ W9.heap[d]? = some (.deferred (some [])) ∧ W9.heap[d2]? = some (.deferred (some [])) ∧ d < d2 ∧ w6.heap.size < d) := ⟨hrb, hBs.out.2.2.1.trans (hB9.mono hBs.out.2.2.1.size), hBs.out.2.2.2, hnc9 _ _ hd1.out.2.2 rfl, hK9, by have := hd1.out.2.1; omega, hd1.out.1⟩
      clear hrb hb9 hB9 hnc9 hK9 hd2 cn fz cw cs cq2 hA2 hI2 hd1
      gi_wp2
      obtain ⟨m1, m2, m3, m4, m5, m6, m7⟩ := hrb'.out
      have x1 : Bx (W9.setCell ⟨w.heap.size + 1, 0, none⟩ (.bool true)) (w.heap.size + 1) 4 (.bool true) := m1.set _
      have x2 : Below w.heap.size w (W9.setCell ⟨w.heap.size + 1, 0, none⟩ (.bool true)) := m2.setCell (by show w.heap.size ≤ w.heap.size + 1; omega) _
      have y1 := (Below.heap_setCell W9 ⟨w.heap.size + 1, 0, none⟩ (.bool true) d (by show d ≠ w.heap.size + 1; omega)).trans m4
      have y2 := (Below.heap_setCell W9 ⟨w.heap.size + 1, 0, none⟩ (.bool true) d2 (by show d2 ≠ w.heap.size + 1; omega)).trans m5
      generalize (W9.setCell ⟨w.heap.size + 1, 0, none⟩ (.bool true)) = Z at *
      refine ⟨by simp, .inl ⟨_, _, rfl, run_takeDeferred y2, ?_⟩⟩
      refine ⟨by simp, .inl ⟨_, _, rfl, run_takeDeferred ((World.putObj_heap_other (by omega)).trans y1), ?_⟩⟩
      exact ⟨_, results_b rfl _ _ (w.heap.size + 1) (.bool true) rfl (bx_put (bx_put x1 _ (by omega)) _ (by omega)), rfl, below_put (below_put x2 _ _ (by omega)) _ _ (by omega)⟩
end Du
end Go.Proofs.Ytkpepbcoeoalkaa
