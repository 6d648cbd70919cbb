import Derived.Test.YthbncinmkkipeaaPgCuS
import Derived.Lib.AppendZeros
namespace Go.Proofs.Ythbncinmkkipeaa
open Go.RowKit Go.Sort Go.Lib
open PgMath (Inc setOf cnt)
set_option linter.unusedVariables false

theorem drop_min (S : List Int) (t : Nat) : (S.drop t).drop 1 = S.drop (min (t + 1) S.length) := by
  rw [List.drop_drop]
  by_cases h : t + 1 ≤ S.length
  · rw [show min (t + 1) S.length = t + 1 by omega]
  · rw [show min (t + 1) S.length = S.length by omega, List.drop_length, List.drop_eq_nil_of_le (by omega)]
theorem drop_max {S : List Int} (h : Inc S) (t : Nat) (x : Int) : (S.drop t).drop (cnt (S.drop t) x) = S.drop (max t (cnt S x)) := by
  rw [List.drop_drop, cnt_drop h]
  congr 1
  omega

set_option maxRecDepth 100000 in
set_option maxHeartbeats 1000000 in
theorem cursors_walk (a : Option Addr) (l : List Int) (c : Nat) (sa : Option Addr) (sn sc : Nat) (K X : Nat → Int) (w : World) (hr : NRow w a l) (hcap : l.length ≤ c) (hl : l.length * 8 ≤ 140737488355328) (hsc : OpsAt w sa sn K X) (hsn : sn ≤ 17592186044416) :
    Calls Try.prog 4 #[.slice a l.length c, .slice sa sn sc] w fun e w' => e = .returned (.bool true) ∧ Below w.heap.size w w' := by
  have hS0 : Hid (Inc (setOf l) ∧ (setOf l).length ≤ 17592186044416) := ⟨PgMath.setOf_inc l, by have := PgMath.setOf_len l; omega⟩
  have hRn : ∀ W, Hid (Below w.heap.size w W → Calls Try.prog 15 #[.slice a l.length c] W fun e w' => ∃ a' c', e = .returned (rcV a' (setOf l).length c' 0) ∧ OwnI w' W.heap.size (.slice a' (setOf l).length c') (setOf l) ∧ Below W.heap.size W w') := fun W hW => rnew_any a l c W (hr.below hW) hcap (by omega)
  obtain ⟨v1, w1, hr1, ho1, hb1⟩ := appendI_row w w.heap.size (.slice none 0 0) [] l a l.length c (ownI_nil _ _) hr rfl (Nat.le_refl _) (by simp; omega)
  rw [List.nil_append] at ho1
  obtain ⟨a1, n1, c1, rfl⟩ := ownI_slice ho1
  obtain ⟨hrow1, rfl⟩ := ownI_row ho1
  have hN1 : ∀ W, Hid (Below w1.heap.size w1 W → Calls Try.prog 9 #[.slice a1 l.length c1] W fun e w' => ∃ b, e = .returned (.pointer (some ⟨b, 0, none⟩)) ∧ Cur w' W.heap.size b (setOf l) ∧ W.heap.size ≤ b ∧ Below W.heap.size W w') := fun W hW => new_any a1 l c1 W (hrow1.below hW) (by omega)
  have ho1' : Hid (OwnI w1 w.heap.size (.slice a1 l.length c1) l ∧ Below w.heap.size w w1) := ⟨ho1, hb1⟩
  have hlb : (l.length : Int) ≤ 17592186044416 := by omega
  have hsc' : Hid (OpsAt w sa sn K X ∧ sn ≤ 17592186044416) := ⟨hsc, hsn⟩
  obtain ⟨S, hSl⟩ : ∃ S, setOf l = S := ⟨_, rfl⟩
  rw [hSl] at hS0
  simp only [hSl] at hRn hN1
  generalize l.length = len at *
  clear hr hcap hl ho1 hb1 hrow1 hsc hsn hSl
  obtain ⟨n, hn⟩ : ∃ n, S.length = n := ⟨_, rfl⟩
  have hn' : Hid (S.length = n) := hn
  simp only [hn] at hRn
  clear hn
  go_enter Try.func4, Try.ntmps4
  go_wp2_with (first
    | (at_builtin; refine Lib.wpList_append_run _ rfl _ _ _ _ rfl _ _ rfl rfl _ _ hr1 ?_)
    | (go_at_call 9; refine ((hN1 w2).out hb2).mono ?_; rintro e w3 ⟨bd, rfl, hd3, hlo3, hb3⟩)
    | (go_at_call 9; refine ((hN1 w1).out (Below.refl _ _)).mono ?_; rintro e w2 ⟨bc, rfl, hc2, hlo2, hb2⟩))
  have hC3 : Hid (Cur w3 w1.heap.size bc S ∧ Cur w3 w2.heap.size bd S ∧ w1.heap.size ≤ bc ∧ bc < w2.heap.size ∧ w2.heap.size ≤ bd ∧ bd < w3.heap.size ∧ w.heap.size ≤ w1.heap.size) := ⟨hc2.keep hb3 hlo2, hd3, hlo2, hc2.lt, hlo3, hd3.lt, ho1'.out.2.size⟩
  have hB3 : Hid (Below w.heap.size w w3 ∧ OwnI w3 w.heap.size (.slice a1 len c1) l) := by
    have hb : Below w1.heap.size w1 w3 := hb2.trans (hb3.mono hb2.size)
    exact ⟨ho1'.out.2.trans (hb.mono ho1'.out.2.size), ownI_below ho1'.out.1 hb⟩
  have hcl : Hid (∀ j, j < len → ∃ g v, a1 = some ⟨g, 0, none⟩ ∧ w.heap.size ≤ g ∧ g < w1.heap.size ∧ w3.cell? ⟨g, j, none⟩ = some v ∧ w3.frozen? ⟨g, j, none⟩ = false) := by
    intro j hj
    have hO := hB3.out.2
    have hln := (ownI_row hO).2
    rcases ownI_form ho1'.out.1 with ⟨e1, e2⟩ | ⟨g, cap, e1, e2, e3, e4, e5⟩
    · rw [e2] at hln; simp at hln; omega
    · injection e1 with e1 e6 e7
      subst e1
      rw [e7, hln] at hO
      have hh := holdsI hO j (by simp; omega)
      rw [Nat.zero_add] at hh
      exact ⟨g, _, rfl, e5, e4, hh.1, hh.2⟩
  clear hc2 hd3 hlo2 hlo3 hb2 hb3 hr1 hN1
  go_loopw [8] (fun iv wr => ∃ i : Nat, i ≤ len ∧ iv = .int .i64 (i : Int) ∧ Hid ((∀ k, w1.heap.size ≤ k → wr.heap[k]? = w3.heap[k]?) ∧ Below w.heap.size w wr ∧ wr.heap.size = w3.heap.size ∧ ∀ j, j < len → ∃ g v, a1 = some ⟨g, 0, none⟩ ∧ w.heap.size ≤ g ∧ g < w1.heap.size ∧ wr.cell? ⟨g, j, none⟩ = some v ∧ wr.frozen? ⟨g, j, none⟩ = false)) (fun iv _ => len - (intOf iv).toNat)
  case atStart => exact ⟨0, Nat.zero_le _, rfl, fun _ _ => rfl, hB3.out.1, rfl, hcl.out⟩
  case round =>
    obtain ⟨i, hi, rfl, hQ⟩ := hrel
    have i0 : (0 : Int) ≤ (i : Int) := Int.natCast_nonneg _
    by_cases hlt : i < len
    · have i1 : (i : Int) < (len : Int) := Int.ofNat_lt.2 hlt
      obtain ⟨g, v, rfl, hg1, hg2, cg, yg⟩ := hQ.out.2.2.2 i hlt
      have hlt' : Hid (i < len) := hlt
      have hN : Hid ((∀ k, w1.heap.size ≤ k → (wr.setCell ⟨g, i, none⟩ (.int .i64 (-7))).heap[k]? = w3.heap[k]?) ∧ Below w.heap.size w (wr.setCell ⟨g, i, none⟩ (.int .i64 (-7))) ∧ (wr.setCell ⟨g, i, none⟩ (.int .i64 (-7))).heap.size = w3.heap.size ∧ ∀ j, j < len → ∃ g' v, some (⟨g, 0, none⟩ : Addr) = some ⟨g', 0, none⟩ ∧ w.heap.size ≤ g' ∧ g' < w1.heap.size ∧ (wr.setCell ⟨g, i, none⟩ (.int .i64 (-7))).cell? ⟨g', j, none⟩ = some v ∧ (wr.setCell ⟨g, i, none⟩ (.int .i64 (-7))).frozen? ⟨g', j, none⟩ = false) := by
        refine ⟨fun k hk => ?_, Below.setCell hQ.out.2.1 hg1 _, ?_, fun j hj => ?_⟩
        · rw [Below.heap_setCell _ _ _ _ (by show k ≠ g; omega)]; exact hQ.out.1 k hk
        · rw [← hQ.out.2.2.1]; simp [World.setCell]
        · obtain ⟨g', v', e, h1, h2, h3, h4⟩ := hQ.out.2.2.2 j hj
          injection e with e
          injection e with e
          subst e
          by_cases ej : i = j
          · subst ej
            exact ⟨g, _, rfl, h1, h2, World.cell?_setCell_same _ _ _ h3, by rw [World.frozen?_setCell]; exact h4⟩
          · exact ⟨g, v', rfl, h1, h2, by rw [World.cell?_setCell_other _ _ _ _ (by intro hh; injection hh with _ hh _; exact ej hh)]; exact h3, by rw [World.frozen?_setCell]; exact h4⟩
      clear hQ hi hlt hg1 hg2
      go_wp2_with fail
      go_roundw
      case rel => exact ⟨i + 1, hlt'.out, by simp, hN⟩
      case measure => have := hlt'.out; simp [intOf]; omega
    · have e : i = len := by omega
      subst e
      have i1 : ¬ (i : Int) < (i : Int) := by omega
      have hW : Hid (Below w.heap.size w wr ∧ w3.heap.size = wr.heap.size ∧ Cur wr w1.heap.size bc S ∧ Cur wr w2.heap.size bd S) := ⟨hQ.out.2.1, hQ.out.2.2.1.symm, hC3.out.1.same (fun k h1 h2 => hQ.out.1 k h1) hC3.out.2.2.1, hC3.out.2.1.same (fun k h1 h2 => hQ.out.1 k (by have := hC3.out; omega)) hC3.out.2.2.2.2.1⟩
      clear hQ hi hlt hcl hB3
      go_wp2_with (first
        | (go_at_call 15; refine ((hRn _).out (Below.alloc (hW.out.1.trans (hb4.mono hW.out.1.size)) (Nat.le_trans hW.out.1.size hb4.size) _)).mono ?_; rintro e w5 ⟨a5, c5, rfl, hO5, hb5⟩)
        | (go_at_call 15; refine ((hRn wr).out hW.out.1).mono ?_; rintro e w4 ⟨a4, c4, rfl, hO4, hb4⟩))

      obtain ⟨W6, hW6⟩ : ∃ W, w5.alloc (.cells #[.slice a5 n c5, .int .i64 0] 33) = W := ⟨_, rfl⟩
      rw [hW6]
      have hst0 : Hid (CSt w w3.heap.size n w4.heap.size w5.heap.size S bc bd a4 a5 c4 c5 0 0 0 W6) := by
        rw [← hW6]
        have b45 : Below w4.heap.size w4 w5 := ((Below.refl _ _).alloc (Nat.le_refl _) _).trans (hb5.mono (by simp))
        have b46 : Below w4.heap.size w4 (w5.alloc (.cells #[.slice a5 n c5, .int .i64 0] 33)) := b45.alloc b45.size _
        have b56 : Below w5.heap.size w5 (w5.alloc (.cells #[.slice a5 n c5, .int .i64 0] 33)) := (Below.refl _ _).alloc (Nat.le_refl _) _
        have bw6 : Below wr.heap.size wr (w5.alloc (.cells #[.slice a5 n c5, .int .i64 0] 33)) := hb4.trans (b46.mono hb4.size)
        have s45 : w4.heap.size + 1 ≤ w5.heap.size := by have := hb5.size; simp at this; omega
        have hC := hC3.out
        have hWs := hW.out.2.1
        refine ⟨⟨w1.heap.size, w2.heap.size, ?_, ?_, hC.2.2.1, hC.2.2.2.2.1, by omega, by omega, by omega⟩, ⟨by omega, by omega, by rw [hWs]; exact hb4.size, by rw [hWs]; exact Nat.le_trans hb4.size b45.size, by omega, by omega⟩, ?_, heap_alloc_new _ _, ⟨?_, ?_⟩, ⟨?_, ?_⟩, ⟨Nat.zero_le _, Nat.zero_le _⟩, hW.out.1.trans (bw6.mono hW.out.1.size)⟩
        · rw [List.drop_zero]; exact hW.out.2.2.1.keep bw6 hC.2.2.1
        · rw [List.drop_zero]; exact hW.out.2.2.2.keep bw6 hC.2.2.2.2.1
        · rw [Below.heap_alloc _ _ _ (by omega), hb5.block _ (by simp)]
          exact heap_alloc_new _ _
        · exact (ownI_row hO4).1.below b46
        · intro x hx
          rcases ownI_form hO4 with ⟨e1, _⟩ | ⟨g, cap, e1, _, _, e4, e5⟩
          · injection e1 with e1; rw [e1] at hx; cases hx
          · injection e1 with e1; rw [e1] at hx; injection hx with hx; subst hx
            refine ⟨by rw [hWs]; exact e5, ?_, ?_⟩ <;> (show g ≠ _; omega)
        · exact (ownI_row hO5).1.below b56
        · intro x hx
          rcases ownI_form hO5 with ⟨e1, _⟩ | ⟨g, cap, e1, _, _, e4, e5⟩
          · injection e1 with e1; rw [e1] at hx; cases hx
          · injection e1 with e1; rw [e1] at hx; injection hx with hx; subst hx
            have e5' : w4.heap.size + 1 ≤ g := by simpa using e5
            have := hb4.size
            refine ⟨by show w3.heap.size ≤ g; omega, ?_, ?_⟩ <;> (show g ≠ _; omega)
      generalize w4.heap.size = bm at *
      generalize w5.heap.size = bo at *
      generalize w3.heap.size = s at *
      clear hO4 hO5 hb4 hb5 hW6 hW hC3 hRn ho1'
      go_loopw [6, 7, 11] (fun cv dv iv wr => ∃ (k b1 b2 : Nat) (A1 A2 : Option Addr) (C1 C2 t1 t2 : Nat), k ≤ sn ∧ iv = .int .i64 (k : Int) ∧ cv = .pointer (some ⟨b1, 0, none⟩) ∧ dv = .pointer (some ⟨b2, 0, none⟩) ∧ Hid (CSt w s n bm bo S b1 b2 A1 A2 C1 C2 t1 t1 t2 wr)) (fun _ _ iv _ => sn - (intOf iv).toNat)
      case atStart => exact ⟨0, bc, bd, a4, a5, c4, c5, 0, 0, Nat.zero_le _, rfl, rfl, rfl, hst0⟩
      case round =>
        obtain ⟨k, b1, b2, A1, A2, C1, C2, t1, t2, hk, rfl, rfl, rfl, hst⟩ := hrel
        have k0 : (0 : Int) ≤ (k : Int) := Int.natCast_nonneg _
        have hkb : (k : Int) ≤ 17592186044416 := by have := hsc'.out.2; omega
        have hnb : Hid (n ≤ 17592186044416) := by have := hS0.out.2; rw [hn'.out] at this; exact this
        obtain ⟨f0, y0, f1, y1⟩ := two_at hst.out.2.2.1
        obtain ⟨g0, z0, g1, z1⟩ := two_at hst.out.2.2.2.1
        have hne : bm ≠ bo := hst.out.2.1.2.2.2.2.1
        have hne' : bo ≠ bm := hne.symm
        by_cases hlt : k < sn
        · have k1 : (k : Int) < (sn : Int) := Int.ofNat_lt.2 hlt
          have hlt' : Hid (k < sn) := hlt
          have hstp : ∀ W, Below w.heap.size w W → ∃ b off, sa = some ⟨b, off, none⟩ ∧ W.cell? ⟨b, off + k * 2, none⟩ = some (.int .i64 (K k)) ∧ W.cell? ⟨b, off + k * 2 + 1, none⟩ = some (.int .i64 (X k)) := fun W hW => (hsc'.out.1.below hW) k hlt
          have hstp' : Hid _ := hstp
          clear hstp hlt hk
          by_cases h3 : k % 3 = 2
          · have d3 : (((k : Int) % 3) == 2) = true := by simp; omega
            clear h3
            go_upto_region 19 with fail
            obtain ⟨W, hWe⟩ : ∃ W, ((((wr.setCell ⟨bm, 0, none⟩ (.slice A2 n C2)).setCell ⟨bm, 1, none⟩ (.int .i64 (t2 : Int))).setCell ⟨bo, 0, none⟩ (.slice A1 n C1)).setCell ⟨bo, 1, none⟩ (.int .i64 (t1 : Int))) = W := ⟨_, rfl⟩
            rw [hWe]
            have hs2 : Hid (CSt w s n bm bo S b2 b1 A2 A1 C2 C1 t2 t2 t1 W) := by rw [← hWe]; exact hst.out.swap
            clear hWe f0 y0 f1 y1 g0 z0 g1 z1 hst
            obtain ⟨sb, so, rfl, x1, x2⟩ := hstp'.out W hs2.out.2.2.2.2.2.2.2
            have hx : ∀ W', Hid (Below w.heap.size w W' → W'.cell? ⟨sb, so + k * 2 + 1, none⟩ = some (.int .i64 (X k))) := fun W' hW' => by
              obtain ⟨b', off', e, _, h⟩ := hstp'.out W' hW'
              injection e with e
              injection e with e1 e2
              subst e1 e2
              exact h
            generalize X k = xv at *
            generalize K k = kd at *
            obtain ⟨f0, y0, f1, y1⟩ := two_at hs2.out.2.2.1
            have ht1 : t2 ≤ n ∧ t1 ≤ n := hs2.out.2.2.2.2.2.2.1
            have ht1' : Hid (t2 ≤ n ∧ t1 ≤ n) := ht1
            have tb : (t2 : Int) ≤ (n : Int) := by omega
            clear ht1 hstp'
            by_cases e0 : kd = 0
            · subst e0
              obtain ⟨v, hv⟩ : ∃ v, (S.drop t2).headD 0 = v := ⟨_, rfl⟩
              obtain ⟨bb, hbb⟩ : ∃ bb, decide (S.drop t2 ≠ []) = bb := ⟨_, rfl⟩
              have hH : Hid (Calls Try.prog 13 #[.pointer (some ⟨b2, 0, none⟩)] W fun e w' => e = .returned (.tuple #[.int .i64 v, .bool bb]) ∧ w' = W) := by
                obtain ⟨lo1, lo2, q1, _⟩ := hs2.out.1
                have := here_any lo1 b2 (S.drop t2) W q1
                rw [← hv, ← hbb]
                exact this
              have hR : Hid (Calls Try.prog 16 #[rcV A2 n C2 t2] W fun e w' => e = .returned (.tuple #[.int .i64 v, .bool bb]) ∧ Below W.heap.size W w') := by
                have := rhere_any A2 S C2 t2 W hs2.out.2.2.2.2.1.1 (by rw [hn'.out]; exact ht1'.out.1) (by have := hS0.out.2; omega)
                rw [hn'.out] at this
                rw [← hv, ← hbb]
                exact this
              clear hv hbb
              go_wp2_with (first
                | (go_at_call 13; refine hH.out.mono ?_; rintro e W ⟨rfl, rfl⟩)
                | (go_at_call 16; refine hR.out.mono ?_; rintro e w6 ⟨rfl, hb6⟩))
              have hs6 : Hid (CSt w s n bm bo S b2 b1 A2 A1 C2 C1 t2 t2 t1 w6) := hs2.out.below hb6
              clear hb6
              go_roundw
              case rel => exact ⟨k + 1, b2, b1, A2, A1, C2, C1, t2, t1, hlt'.out, by simp, rfl, rfl, hs6⟩
              case measure => have := hlt'.out; simp [intOf]; omega
            · have q0 : (kd == 0) = false := by simp [e0]
              by_cases e1 : kd = 1
              · subst e1
                obtain ⟨t, ht⟩ : ∃ t, min (t2 + 1) n = t := ⟨_, rfl⟩
                have htn : Hid (t ≤ n) := by unfold Hid; omega
                have hNx : Hid (Calls Try.prog 14 #[.pointer (some ⟨b2, 0, none⟩)] W fun e w' => e = .returned (.tuple #[]) ∧ CSt w s n bm bo S b2 b1 A2 A1 C2 C1 t t2 t1 w') := by
                  obtain ⟨lo1, q1, hmv⟩ := hs2.out.moved
                  refine (next_any lo1 b2 (S.drop t2) W q1).mono fun e w' hh => ⟨hh.1, hmv w' t ?_ hh.2.2⟩
                  have h9 := hh.2.1
                  rw [drop_min, hn'.out, ht] at h9
                  exact h9
                have hRx : ∀ W', Hid (Calls Try.prog 17 #[rcV A2 n C2 t2] W' fun e w' => e = .returned (rcV A2 n C2 t) ∧ Below W'.heap.size W' w') := fun W' => by
                  have := rnext_any A2 n C2 t2 W' ht1'.out.1 (by have := hnb.out; omega)
                  rw [ht] at this
                  exact this
                clear ht
                go_wp2_with (first
                  | (go_at_call 14; refine hNx.out.mono ?_; rintro e w5 ⟨rfl, hs5⟩; have hs5' : Hid (CSt w s n bm bo S b2 b1 A2 A1 C2 C1 t t2 t1 w5) := hs5; obtain ⟨p0, r0, p1, r1⟩ := two_at hs5.2.2.1; clear hs5)
                  | (go_at_call 17; refine (hRx _).out.mono ?_; rintro e w6 ⟨rfl, hb6⟩; have hs6' : Hid (CSt w s n bm bo S b2 b1 A2 A1 C2 C1 t t2 t1 w6) := hs5'.out.below hb6; obtain ⟨m0, o0, m1, o1⟩ := two_at hs6'.out.2.2.1; clear hb6))
                have hs7 := hs6'.out.setM htn.out
                have hs7' : Hid _ := hs7
                clear hs7
                go_roundw
                case rel => exact ⟨k + 1, b2, b1, A2, A1, C2, C1, t, t1, hlt'.out, by simp, rfl, rfl, hs7'⟩
                case measure => have := hlt'.out; simp [intOf]; omega
              · have q1 : (kd == 1) = false := by simp [e1]
                by_cases e2 : kd = 2
                · subst e2
                  obtain ⟨t, ht⟩ : ∃ t, max t2 (cnt S xv) = t := ⟨_, rfl⟩
                  have htn : Hid (t ≤ n) := by
                    have h1 := PgMath.cnt_len S xv
                    rw [hn'.out] at h1
                    have := ht1'.out.1
                    unfold Hid
                    omega
                  have hSk : Hid (Calls Try.prog 12 #[.pointer (some ⟨b2, 0, none⟩), .int .i64 xv] W fun e w' => e = .returned (.tuple #[]) ∧ CSt w s n bm bo S b2 b1 A2 A1 C2 C1 t t2 t1 w') := by
                    obtain ⟨lo1, q1, hmv⟩ := hs2.out.moved
                    refine (skip_any lo1 b2 (S.drop t2) xv W q1 (PgMath.inc_drop hS0.out.1 _)).mono fun e w' hh => ⟨hh.1, hmv w' t ?_ hh.2.2⟩
                    have h9 := hh.2.1
                    rw [drop_max hS0.out.1, ht] at h9
                    exact h9
                  have hRs : ∀ W', Hid (RowC s bm bo A2 S W' → Calls Try.prog 18 #[rcV A2 n C2 t2, .int .i64 xv] W' fun e w' => e = .returned (rcV A2 n C2 t) ∧ Below W'.heap.size W' w') := fun W' hW' => by
                    have := rskip_any A2 S C2 t2 xv W' hW'.1 hS0.out.1 (by rw [hn'.out]; exact ht1'.out.1) (by have := hS0.out.2; omega)
                    rw [ht, hn'.out] at this
                    exact this
                  clear ht
                  go_wp2_with (go_at_call 12; refine hSk.out.mono ?_; rintro e w5 ⟨rfl, hs5⟩; have hs5' : Hid (CSt w s n bm bo S b2 b1 A2 A1 C2 C1 t t2 t1 w5) := hs5; clear hs5)
                  have hs0 : Hid (CSt w s n bm bo S b2 b1 A2 A1 C2 C1 t t2 t1 w5.drew) := hs5'.out.drewN 1
                  refine wp_region_noPanic ?_
                  refine wp_region_held_drew (S := fun _ => True) (by kernel_rfl) trivial (fun _ => ?_)
                  generalize w5.drew = W0 at *
                  obtain ⟨p0, r0, p1, r1⟩ := two_at hs0.out.2.2.1
                  have px := (hx W0).out hs0.out.2.2.2.2.2.2.2
                  have hCl := (hRs W0).out hs0.out.2.2.2.2.1
                  refine wpAnyH_take (i := 1) (v := ?va1) (by simp only [List.getElem?_toArray, List.getElem?_cons_zero, List.getElem?_cons_succ]; exact rfl) (by kernel_rfl) (by kernel_rfl) (by kernel_rfl) (fun _ _ _ h => h) (Or.inl ⟨by rfl, ?ya1⟩) trivial ?ra1
                  case ya1 =>
                    intro w' _
                    go_simp
                    try with_reducible rfl
                  case ra1 =>
                  simp only [Act.put, List.setIfInBounds_toArray, List.set_cons_zero, List.set_cons_succ]
                  refine wpAnyH_take (i := 2) (v := ?va2) (by simp only [List.getElem?_toArray, List.getElem?_cons_zero, List.getElem?_cons_succ]; exact rfl) (by kernel_rfl) (by kernel_rfl) (by kernel_rfl) (fun _ _ _ h => h) (Or.inl ⟨by rfl, ?ya2⟩) trivial ?ra2
                  case ya2 =>
                    intro w' _
                    go_simp
                    try with_reducible rfl
                  case ra2 =>
                  simp only [Act.put, List.setIfInBounds_toArray, List.set_cons_zero, List.set_cons_succ]
                  refine wpAnyH_take (i := 3) (v := ?va3) (by simp only [List.getElem?_toArray, List.getElem?_cons_zero, List.getElem?_cons_succ]; exact rfl) (by kernel_rfl) (by kernel_rfl) (by kernel_rfl) (fun _ _ _ h => h) (Or.inl ⟨by rfl, ?ya3⟩) trivial ?ra3
                  case ya3 =>
                    intro w' _
                    go_simp
                    try with_reducible rfl
                  case ra3 =>
                  simp only [Act.put, List.setIfInBounds_toArray, List.set_cons_zero, List.set_cons_succ]
                  refine wpAnyH_take (i := 4) (v := ?va4) (by simp only [List.getElem?_toArray, List.getElem?_cons_zero, List.getElem?_cons_succ]; exact rfl) (by kernel_rfl) (by kernel_rfl) (by kernel_rfl) (fun _ _ _ h => h) (Or.inl ⟨by rfl, ?ya4⟩) trivial ?ra4
                  case ya4 =>
                    intro w' _
                    go_simp
                    try with_reducible rfl
                  case ra4 =>
                  simp only [Act.put, List.setIfInBounds_toArray, List.set_cons_zero, List.set_cons_succ]
                  refine wpAnyH_ready (rs := [0, 5]) (by kernel_rfl) (by simp) ?_
                  refine AllReadyH.cons (by simp only [List.getElem?_toArray, List.getElem?_cons_zero]; exact rfl) (fun K hK => ?_) (AllReadyH.cons (by simp only [List.getElem?_toArray, List.getElem?_cons_zero, List.getElem?_cons_succ]; exact rfl) (fun K hK => ?_) AllReadyH.nil)
                  · go_simp
                    refine hK.out _ _ trivial (fun _ => ?_)
                    clear hK K
                    refine wpAnyH_ready (rs := [5]) (by kernel_rfl) (by simp) ?_
                    refine AllReadyH.cons (by simp only [List.getElem?_toArray, List.getElem?_cons_zero, List.getElem?_cons_succ]; exact rfl) (fun K hK => ?_) AllReadyH.nil
                    go_simp
                    refine hK.out _ _ trivial (fun _ => ?_)
                    clear hK K
                    refine wpAnyH_ready (rs := [6]) (by kernel_rfl) (by simp) ?_
                    refine AllReadyH.cons (by simp only [List.getElem?_toArray, List.getElem?_cons_zero, List.getElem?_cons_succ]; exact rfl) (fun K hK => ?_) AllReadyH.nil
                    go_simp
                    refine hCl.mono ?_
                    rintro r w6 ⟨rfl, hb6⟩
                    have hs6' : Hid (CSt w s n bm bo S b2 b1 A2 A1 C2 C1 t t2 t1 w6) := hs0.out.below hb6
                    obtain ⟨m0, o0, m1, o1⟩ := two_at hs6'.out.2.2.1
                    clear hb6
                    go_simp
                    refine hK.out _ _ trivial (fun _ => ?_)
                    clear hK K
                    refine wpAnyH_ready (rs := [7]) (by kernel_rfl) (by simp) ?_
                    refine AllReadyH.cons (by simp only [List.getElem?_toArray, List.getElem?_cons_zero, List.getElem?_cons_succ]; exact rfl) (fun K hK => ?_) AllReadyH.nil
                    go_simp
                    refine hK.out _ _ trivial (fun _ => ?_)
                    clear hK K
                    refine wpAnyH_done (by kernel_rfl) ?_ _
                    refine NoPanic.normal ?_
                    have hs7 := hs6'.out.setM htn.out
                    have hs7' : Hid _ := hs7
                    clear hs7
                    go_wp2_with fail
                    go_roundw
                    case rel => exact ⟨k + 1, b2, b1, A2, A1, C2, C1, t, t1, hlt'.out, by simp, rfl, rfl, hs7'⟩
                    case measure => have := hlt'.out; simp [intOf]; omega
                  · go_simp
                    refine hK.out _ _ trivial (fun _ => ?_)
                    clear hK K
                    refine wpAnyH_ready (rs := [0]) (by kernel_rfl) (by simp) ?_
                    refine AllReadyH.cons (by simp only [List.getElem?_toArray, List.getElem?_cons_zero]; exact rfl) (fun K hK => ?_) AllReadyH.nil
                    go_simp
                    refine hK.out _ _ trivial (fun _ => ?_)
                    clear hK K
                    refine wpAnyH_ready (rs := [6]) (by kernel_rfl) (by simp) ?_
                    refine AllReadyH.cons (by simp only [List.getElem?_toArray, List.getElem?_cons_zero, List.getElem?_cons_succ]; exact rfl) (fun K hK => ?_) AllReadyH.nil
                    go_simp
                    refine hCl.mono ?_
                    rintro r w6 ⟨rfl, hb6⟩
                    have hs6' : Hid (CSt w s n bm bo S b2 b1 A2 A1 C2 C1 t t2 t1 w6) := hs0.out.below hb6
                    obtain ⟨m0, o0, m1, o1⟩ := two_at hs6'.out.2.2.1
                    clear hb6
                    go_simp
                    refine hK.out _ _ trivial (fun _ => ?_)
                    clear hK K
                    refine wpAnyH_ready (rs := [7]) (by kernel_rfl) (by simp) ?_
                    refine AllReadyH.cons (by simp only [List.getElem?_toArray, List.getElem?_cons_zero, List.getElem?_cons_succ]; exact rfl) (fun K hK => ?_) AllReadyH.nil
                    go_simp
                    refine hK.out _ _ trivial (fun _ => ?_)
                    clear hK K
                    refine wpAnyH_done (by kernel_rfl) ?_ _
                    refine NoPanic.normal ?_
                    have hs7 := hs6'.out.setM htn.out
                    have hs7' : Hid _ := hs7
                    clear hs7
                    go_wp2_with fail
                    go_roundw
                    case rel => exact ⟨k + 1, b2, b1, A2, A1, C2, C1, t, t1, hlt'.out, by simp, rfl, rfl, hs7'⟩
                    case measure => have := hlt'.out; simp [intOf]; omega
                · have q2 : (kd == 2) = false := by simp [e2]
                  by_cases e3 : kd = 3
                  · subst e3
                    have hL : Hid (Calls Try.prog 11 #[.pointer (some ⟨b2, 0, none⟩)] W.drew fun e w' => e = .returned (.int .i64 ((n : Int) - (t2 : Int))) ∧ w' = W.drew) := by
                      obtain ⟨lo1, lo2, q1, _⟩ := (hs2.out.drewN 1).1
                      have := left_any lo1 b2 (S.drop t2) W.drew q1
                      rw [List.length_drop, hn'.out, show (((n - t2 : Nat)) : Int) = (n : Int) - (t2 : Int) by have := ht1'.out.1; omega] at this
                      exact this
                    have hR : ∀ W', Hid (Calls Try.prog 19 #[rcV A2 n C2 t2] W' fun e w' => e = .returned (.int .i64 ((n : Int) - (t2 : Int))) ∧ Below W'.heap.size W' w') := fun W' => rleft_any A2 n C2 t2 W' ht1'.out.1 (by have := hnb.out; omega)
                    have c0 : W.drew.cell? ⟨bm, 0, none⟩ = some (.slice A2 n C2) ∧ W.drew.cell? ⟨bm, 1, none⟩ = some (.int .i64 (t2 : Int)) := ⟨f0, f1⟩
                    have hs0 : Hid (CSt w s n bm bo S b2 b1 A2 A1 C2 C1 t2 t2 t1 W.drew) := hs2.out.drewN 1
                    go_wp2_with fail
                    go_region_held3 (fun w' => w'.cell? ⟨bm, 0, none⟩ = some (.slice A2 n C2) ∧ w'.cell? ⟨bm, 1, none⟩ = some (.int .i64 (t2 : Int)))
                      (first | exact c0 | exact c6)
                      (first
                        | (go_at_call 11; refine hL.out.mono ?_; rintro e w' ⟨rfl, rfl⟩)
                        | (go_at_call 19; refine (hR _).out.mono ?_; rintro e w6 ⟨rfl, hb6⟩; have hs6 : Hid (CSt w s n bm bo S b2 b1 A2 A1 C2 C1 t2 t2 t1 w6) := hs0.out.below hb6; have c6 : w6.cell? ⟨bm, 0, none⟩ = some (.slice A2 n C2) ∧ w6.cell? ⟨bm, 1, none⟩ = some (.int .i64 (t2 : Int)) := ⟨(two_at hs6.out.2.2.1).1, (two_at hs6.out.2.2.1).2.2.1⟩))
                    clear c6 hb6
                    go_wp2_with fail
                    go_roundw
                    case rel => exact ⟨k + 1, b2, b1, A2, A1, C2, C1, t2, t1, hlt'.out, by simp, rfl, rfl, hs6⟩
                    case measure => have := hlt'.out; simp [intOf]; omega
                  · have q3 : (kd == 3) = false := by simp [e3]
                    go_wp2_with fail
                    go_roundw
                    case rel => exact ⟨k + 1, b2, b1, A2, A1, C2, C1, t2, t1, hlt'.out, by simp, rfl, rfl, hs2⟩
                    case measure => have := hlt'.out; simp [intOf]; omega
          · have d3 : (((k : Int) % 3) == 2) = false := by simp; omega
            clear h3
            go_upto_region 19 with fail
            have hs2 : Hid (CSt w s n bm bo S b1 b2 A1 A2 C1 C2 t1 t1 t2 wr) := hst
            clear f0 y0 f1 y1 g0 z0 g1 z1 hst
            obtain ⟨sb, so, rfl, x1, x2⟩ := hstp'.out wr hs2.out.2.2.2.2.2.2.2
            have hx : ∀ W', Hid (Below w.heap.size w W' → W'.cell? ⟨sb, so + k * 2 + 1, none⟩ = some (.int .i64 (X k))) := fun W' hW' => by
              obtain ⟨b', off', e, _, h⟩ := hstp'.out W' hW'
              injection e with e
              injection e with e1 e2
              subst e1 e2
              exact h
            generalize X k = xv at *
            generalize K k = kd at *
            obtain ⟨f0, y0, f1, y1⟩ := two_at hs2.out.2.2.1
            have ht1 : t1 ≤ n ∧ t2 ≤ n := hs2.out.2.2.2.2.2.2.1
            have ht1' : Hid (t1 ≤ n ∧ t2 ≤ n) := ht1
            have tb : (t1 : Int) ≤ (n : Int) := by omega
            clear ht1 hstp'
            by_cases e0 : kd = 0
            · subst e0
              obtain ⟨v, hv⟩ : ∃ v, (S.drop t1).headD 0 = v := ⟨_, rfl⟩
              obtain ⟨bb, hbb⟩ : ∃ bb, decide (S.drop t1 ≠ []) = bb := ⟨_, rfl⟩
              have hH : Hid (Calls Try.prog 13 #[.pointer (some ⟨b1, 0, none⟩)] wr fun e w' => e = .returned (.tuple #[.int .i64 v, .bool bb]) ∧ w' = wr) := by
                obtain ⟨lo1, lo2, q1, _⟩ := hs2.out.1
                have := here_any lo1 b1 (S.drop t1) wr q1
                rw [← hv, ← hbb]
                exact this
              have hR : Hid (Calls Try.prog 16 #[rcV A1 n C1 t1] wr fun e w' => e = .returned (.tuple #[.int .i64 v, .bool bb]) ∧ Below wr.heap.size wr w') := by
                have := rhere_any A1 S C1 t1 wr hs2.out.2.2.2.2.1.1 (by rw [hn'.out]; exact ht1'.out.1) (by have := hS0.out.2; omega)
                rw [hn'.out] at this
                rw [← hv, ← hbb]
                exact this
              clear hv hbb
              go_wp2_with (first
                | (go_at_call 13; refine hH.out.mono ?_; rintro e wr ⟨rfl, rfl⟩)
                | (go_at_call 16; refine hR.out.mono ?_; rintro e w6 ⟨rfl, hb6⟩))
              have hs6 : Hid (CSt w s n bm bo S b1 b2 A1 A2 C1 C2 t1 t1 t2 w6) := hs2.out.below hb6
              clear hb6
              go_roundw
              case rel => exact ⟨k + 1, b1, b2, A1, A2, C1, C2, t1, t2, hlt'.out, by simp, rfl, rfl, hs6⟩
              case measure => have := hlt'.out; simp [intOf]; omega
            · have q0 : (kd == 0) = false := by simp [e0]
              by_cases e1 : kd = 1
              · subst e1
                obtain ⟨t, ht⟩ : ∃ t, min (t1 + 1) n = t := ⟨_, rfl⟩
                have htn : Hid (t ≤ n) := by unfold Hid; omega
                have hNx : Hid (Calls Try.prog 14 #[.pointer (some ⟨b1, 0, none⟩)] wr fun e w' => e = .returned (.tuple #[]) ∧ CSt w s n bm bo S b1 b2 A1 A2 C1 C2 t t1 t2 w') := by
                  obtain ⟨lo1, q1, hmv⟩ := hs2.out.moved
                  refine (next_any lo1 b1 (S.drop t1) wr q1).mono fun e w' hh => ⟨hh.1, hmv w' t ?_ hh.2.2⟩
                  have h9 := hh.2.1
                  rw [drop_min, hn'.out, ht] at h9
                  exact h9
                have hRx : ∀ W', Hid (Calls Try.prog 17 #[rcV A1 n C1 t1] W' fun e w' => e = .returned (rcV A1 n C1 t) ∧ Below W'.heap.size W' w') := fun W' => by
                  have := rnext_any A1 n C1 t1 W' ht1'.out.1 (by have := hnb.out; omega)
                  rw [ht] at this
                  exact this
                clear ht
                go_wp2_with (first
                  | (go_at_call 14; refine hNx.out.mono ?_; rintro e w5 ⟨rfl, hs5⟩; have hs5' : Hid (CSt w s n bm bo S b1 b2 A1 A2 C1 C2 t t1 t2 w5) := hs5; obtain ⟨p0, r0, p1, r1⟩ := two_at hs5.2.2.1; clear hs5)
                  | (go_at_call 17; refine (hRx _).out.mono ?_; rintro e w6 ⟨rfl, hb6⟩; have hs6' : Hid (CSt w s n bm bo S b1 b2 A1 A2 C1 C2 t t1 t2 w6) := hs5'.out.below hb6; obtain ⟨m0, o0, m1, o1⟩ := two_at hs6'.out.2.2.1; clear hb6))
                have hs7 := hs6'.out.setM htn.out
                have hs7' : Hid _ := hs7
                clear hs7
                go_roundw
                case rel => exact ⟨k + 1, b1, b2, A1, A2, C1, C2, t, t2, hlt'.out, by simp, rfl, rfl, hs7'⟩
                case measure => have := hlt'.out; simp [intOf]; omega
              · have q1 : (kd == 1) = false := by simp [e1]
                by_cases e2 : kd = 2
                · subst e2
                  obtain ⟨t, ht⟩ : ∃ t, max t1 (cnt S xv) = t := ⟨_, rfl⟩
                  have htn : Hid (t ≤ n) := by
                    have h1 := PgMath.cnt_len S xv
                    rw [hn'.out] at h1
                    have := ht1'.out.1
                    unfold Hid
                    omega
                  have hSk : Hid (Calls Try.prog 12 #[.pointer (some ⟨b1, 0, none⟩), .int .i64 xv] wr fun e w' => e = .returned (.tuple #[]) ∧ CSt w s n bm bo S b1 b2 A1 A2 C1 C2 t t1 t2 w') := by
                    obtain ⟨lo1, q1, hmv⟩ := hs2.out.moved
                    refine (skip_any lo1 b1 (S.drop t1) xv wr q1 (PgMath.inc_drop hS0.out.1 _)).mono fun e w' hh => ⟨hh.1, hmv w' t ?_ hh.2.2⟩
                    have h9 := hh.2.1
                    rw [drop_max hS0.out.1, ht] at h9
                    exact h9
                  have hRs : ∀ W', Hid (RowC s bm bo A1 S W' → Calls Try.prog 18 #[rcV A1 n C1 t1, .int .i64 xv] W' fun e w' => e = .returned (rcV A1 n C1 t) ∧ Below W'.heap.size W' w') := fun W' hW' => by
                    have := rskip_any A1 S C1 t1 xv W' hW'.1 hS0.out.1 (by rw [hn'.out]; exact ht1'.out.1) (by have := hS0.out.2; omega)
                    rw [ht, hn'.out] at this
                    exact this
                  clear ht
                  go_wp2_with (go_at_call 12; refine hSk.out.mono ?_; rintro e w5 ⟨rfl, hs5⟩; have hs5' : Hid (CSt w s n bm bo S b1 b2 A1 A2 C1 C2 t t1 t2 w5) := hs5; clear hs5)
                  have hs0 : Hid (CSt w s n bm bo S b1 b2 A1 A2 C1 C2 t t1 t2 w5.drew) := hs5'.out.drewN 1
                  refine wp_region_noPanic ?_
                  refine wp_region_held_drew (S := fun _ => True) (by kernel_rfl) trivial (fun _ => ?_)
                  generalize w5.drew = W0 at *
                  obtain ⟨p0, r0, p1, r1⟩ := two_at hs0.out.2.2.1
                  have px := (hx W0).out hs0.out.2.2.2.2.2.2.2
                  have hCl := (hRs W0).out hs0.out.2.2.2.2.1
                  refine wpAnyH_take (i := 1) (v := ?va5) (by simp only [List.getElem?_toArray, List.getElem?_cons_zero, List.getElem?_cons_succ]; exact rfl) (by kernel_rfl) (by kernel_rfl) (by kernel_rfl) (fun _ _ _ h => h) (Or.inl ⟨by rfl, ?ya5⟩) trivial ?ra5
                  case ya5 =>
                    intro w' _
                    go_simp
                    try with_reducible rfl
                  case ra5 =>
                  simp only [Act.put, List.setIfInBounds_toArray, List.set_cons_zero, List.set_cons_succ]
                  refine wpAnyH_take (i := 2) (v := ?va6) (by simp only [List.getElem?_toArray, List.getElem?_cons_zero, List.getElem?_cons_succ]; exact rfl) (by kernel_rfl) (by kernel_rfl) (by kernel_rfl) (fun _ _ _ h => h) (Or.inl ⟨by rfl, ?ya6⟩) trivial ?ra6
                  case ya6 =>
                    intro w' _
                    go_simp
                    try with_reducible rfl
                  case ra6 =>
                  simp only [Act.put, List.setIfInBounds_toArray, List.set_cons_zero, List.set_cons_succ]
                  refine wpAnyH_take (i := 3) (v := ?va7) (by simp only [List.getElem?_toArray, List.getElem?_cons_zero, List.getElem?_cons_succ]; exact rfl) (by kernel_rfl) (by kernel_rfl) (by kernel_rfl) (fun _ _ _ h => h) (Or.inl ⟨by rfl, ?ya7⟩) trivial ?ra7
                  case ya7 =>
                    intro w' _
                    go_simp
                    try with_reducible rfl
                  case ra7 =>
                  simp only [Act.put, List.setIfInBounds_toArray, List.set_cons_zero, List.set_cons_succ]
                  refine wpAnyH_take (i := 4) (v := ?va8) (by simp only [List.getElem?_toArray, List.getElem?_cons_zero, List.getElem?_cons_succ]; exact rfl) (by kernel_rfl) (by kernel_rfl) (by kernel_rfl) (fun _ _ _ h => h) (Or.inl ⟨by rfl, ?ya8⟩) trivial ?ra8
                  case ya8 =>
                    intro w' _
                    go_simp
                    try with_reducible rfl
                  case ra8 =>
                  simp only [Act.put, List.setIfInBounds_toArray, List.set_cons_zero, List.set_cons_succ]
                  refine wpAnyH_ready (rs := [0, 5]) (by kernel_rfl) (by simp) ?_
                  refine AllReadyH.cons (by simp only [List.getElem?_toArray, List.getElem?_cons_zero]; exact rfl) (fun K hK => ?_) (AllReadyH.cons (by simp only [List.getElem?_toArray, List.getElem?_cons_zero, List.getElem?_cons_succ]; exact rfl) (fun K hK => ?_) AllReadyH.nil)
                  · go_simp
                    refine hK.out _ _ trivial (fun _ => ?_)
                    clear hK K
                    refine wpAnyH_ready (rs := [5]) (by kernel_rfl) (by simp) ?_
                    refine AllReadyH.cons (by simp only [List.getElem?_toArray, List.getElem?_cons_zero, List.getElem?_cons_succ]; exact rfl) (fun K hK => ?_) AllReadyH.nil
                    go_simp
                    refine hK.out _ _ trivial (fun _ => ?_)
                    clear hK K
                    refine wpAnyH_ready (rs := [6]) (by kernel_rfl) (by simp) ?_
                    refine AllReadyH.cons (by simp only [List.getElem?_toArray, List.getElem?_cons_zero, List.getElem?_cons_succ]; exact rfl) (fun K hK => ?_) AllReadyH.nil
                    go_simp
                    refine hCl.mono ?_
                    rintro r w6 ⟨rfl, hb6⟩
                    have hs6' : Hid (CSt w s n bm bo S b1 b2 A1 A2 C1 C2 t t1 t2 w6) := hs0.out.below hb6
                    obtain ⟨m0, o0, m1, o1⟩ := two_at hs6'.out.2.2.1
                    clear hb6
                    go_simp
                    refine hK.out _ _ trivial (fun _ => ?_)
                    clear hK K
                    refine wpAnyH_ready (rs := [7]) (by kernel_rfl) (by simp) ?_
                    refine AllReadyH.cons (by simp only [List.getElem?_toArray, List.getElem?_cons_zero, List.getElem?_cons_succ]; exact rfl) (fun K hK => ?_) AllReadyH.nil
                    go_simp
                    refine hK.out _ _ trivial (fun _ => ?_)
                    clear hK K
                    refine wpAnyH_done (by kernel_rfl) ?_ _
                    refine NoPanic.normal ?_
                    have hs7 := hs6'.out.setM htn.out
                    have hs7' : Hid _ := hs7
                    clear hs7
                    go_wp2_with fail
                    go_roundw
                    case rel => exact ⟨k + 1, b1, b2, A1, A2, C1, C2, t, t2, hlt'.out, by simp, rfl, rfl, hs7'⟩
                    case measure => have := hlt'.out; simp [intOf]; omega
                  · go_simp
                    refine hK.out _ _ trivial (fun _ => ?_)
                    clear hK K
                    refine wpAnyH_ready (rs := [0]) (by kernel_rfl) (by simp) ?_
                    refine AllReadyH.cons (by simp only [List.getElem?_toArray, List.getElem?_cons_zero]; exact rfl) (fun K hK => ?_) AllReadyH.nil
                    go_simp
                    refine hK.out _ _ trivial (fun _ => ?_)
                    clear hK K
                    refine wpAnyH_ready (rs := [6]) (by kernel_rfl) (by simp) ?_
                    refine AllReadyH.cons (by simp only [List.getElem?_toArray, List.getElem?_cons_zero, List.getElem?_cons_succ]; exact rfl) (fun K hK => ?_) AllReadyH.nil
                    go_simp
                    refine hCl.mono ?_
                    rintro r w6 ⟨rfl, hb6⟩
                    have hs6' : Hid (CSt w s n bm bo S b1 b2 A1 A2 C1 C2 t t1 t2 w6) := hs0.out.below hb6
                    obtain ⟨m0, o0, m1, o1⟩ := two_at hs6'.out.2.2.1
                    clear hb6
                    go_simp
                    refine hK.out _ _ trivial (fun _ => ?_)
                    clear hK K
                    refine wpAnyH_ready (rs := [7]) (by kernel_rfl) (by simp) ?_
                    refine AllReadyH.cons (by simp only [List.getElem?_toArray, List.getElem?_cons_zero, List.getElem?_cons_succ]; exact rfl) (fun K hK => ?_) AllReadyH.nil
                    go_simp
                    refine hK.out _ _ trivial (fun _ => ?_)
                    clear hK K
                    refine wpAnyH_done (by kernel_rfl) ?_ _
                    refine NoPanic.normal ?_
                    have hs7 := hs6'.out.setM htn.out
                    have hs7' : Hid _ := hs7
                    clear hs7
                    go_wp2_with fail
                    go_roundw
                    case rel => exact ⟨k + 1, b1, b2, A1, A2, C1, C2, t, t2, hlt'.out, by simp, rfl, rfl, hs7'⟩
                    case measure => have := hlt'.out; simp [intOf]; omega
                · have q2 : (kd == 2) = false := by simp [e2]
                  by_cases e3 : kd = 3
                  · subst e3
                    have hL : Hid (Calls Try.prog 11 #[.pointer (some ⟨b1, 0, none⟩)] wr.drew fun e w' => e = .returned (.int .i64 ((n : Int) - (t1 : Int))) ∧ w' = wr.drew) := by
                      obtain ⟨lo1, lo2, q1, _⟩ := (hs2.out.drewN 1).1
                      have := left_any lo1 b1 (S.drop t1) wr.drew q1
                      rw [List.length_drop, hn'.out, show (((n - t1 : Nat)) : Int) = (n : Int) - (t1 : Int) by have := ht1'.out.1; omega] at this
                      exact this
                    have hR : ∀ W', Hid (Calls Try.prog 19 #[rcV A1 n C1 t1] W' fun e w' => e = .returned (.int .i64 ((n : Int) - (t1 : Int))) ∧ Below W'.heap.size W' w') := fun W' => rleft_any A1 n C1 t1 W' ht1'.out.1 (by have := hnb.out; omega)
                    have c0 : wr.drew.cell? ⟨bm, 0, none⟩ = some (.slice A1 n C1) ∧ wr.drew.cell? ⟨bm, 1, none⟩ = some (.int .i64 (t1 : Int)) := ⟨f0, f1⟩
                    have hs0 : Hid (CSt w s n bm bo S b1 b2 A1 A2 C1 C2 t1 t1 t2 wr.drew) := hs2.out.drewN 1
                    go_wp2_with fail
                    go_region_held3 (fun w' => w'.cell? ⟨bm, 0, none⟩ = some (.slice A1 n C1) ∧ w'.cell? ⟨bm, 1, none⟩ = some (.int .i64 (t1 : Int)))
                      (first | exact c0 | exact c6)
                      (first
                        | (go_at_call 11; refine hL.out.mono ?_; rintro e w' ⟨rfl, rfl⟩)
                        | (go_at_call 19; refine (hR _).out.mono ?_; rintro e w6 ⟨rfl, hb6⟩; have hs6 : Hid (CSt w s n bm bo S b1 b2 A1 A2 C1 C2 t1 t1 t2 w6) := hs0.out.below hb6; have c6 : w6.cell? ⟨bm, 0, none⟩ = some (.slice A1 n C1) ∧ w6.cell? ⟨bm, 1, none⟩ = some (.int .i64 (t1 : Int)) := ⟨(two_at hs6.out.2.2.1).1, (two_at hs6.out.2.2.1).2.2.1⟩))
                    clear c6 hb6
                    go_wp2_with fail
                    go_roundw
                    case rel => exact ⟨k + 1, b1, b2, A1, A2, C1, C2, t1, t2, hlt'.out, by simp, rfl, rfl, hs6⟩
                    case measure => have := hlt'.out; simp [intOf]; omega
                  · have q3 : (kd == 3) = false := by simp [e3]
                    go_wp2_with fail
                    go_roundw
                    case rel => exact ⟨k + 1, b1, b2, A1, A2, C1, C2, t1, t2, hlt'.out, by simp, rfl, rfl, hs2⟩
                    case measure => have := hlt'.out; simp [intOf]; omega
        · have e : k = sn := by omega
          subst e
          have k1 : ¬ (k : Int) < (k : Int) := by omega
          have ht1' : Hid (t1 ≤ n ∧ t2 ≤ n) := hst.out.2.2.2.2.2.2.1
          obtain ⟨v, hv⟩ : ∃ v, (S.drop t1).headD 0 = v := ⟨_, rfl⟩
          obtain ⟨bb, hbb⟩ : ∃ bb, decide (S.drop t1 ≠ []) = bb := ⟨_, rfl⟩
          have hH : Hid (Calls Try.prog 13 #[.pointer (some ⟨b1, 0, none⟩)] wr fun e w' => e = .returned (.tuple #[.int .i64 v, .bool bb]) ∧ w' = wr) := by
            obtain ⟨lo1, lo2, q1, _⟩ := hst.out.1
            have := here_any lo1 b1 (S.drop t1) wr q1
            rw [← hv, ← hbb]
            exact this
          have hR : Hid (Calls Try.prog 16 #[rcV A1 n C1 t1] wr fun e w' => e = .returned (.tuple #[.int .i64 v, .bool bb]) ∧ Below wr.heap.size wr w') := by
            have := rhere_any A1 S C1 t1 wr hst.out.2.2.2.2.1.1 (by rw [hn'.out]; exact ht1'.out.1) (by have := hS0.out.2; omega)
            rw [hn'.out] at this
            rw [← hv, ← hbb]
            exact this
          have hRl : ∀ (A : Option Addr) (C t : Nat) (W' : World), t ≤ n → Hid (Calls Try.prog 19 #[rcV A n C t] W' fun e w' => e = .returned (.int .i64 ((n : Int) - (t : Int))) ∧ Below W'.heap.size W' w') := fun A C t W' ht => rleft_any A n C t W' ht (by have := hnb.out; omega)
          have hL1 : ∀ W', Hid (CSt w s n bm bo S b1 b2 A1 A2 C1 C2 t1 t1 t2 W' → Calls Try.prog 11 #[.pointer (some ⟨b1, 0, none⟩)] W' fun e w' => e = .returned (.int .i64 ((n : Int) - (t1 : Int))) ∧ w' = W') := fun W' hW' => by
            obtain ⟨lo1, lo2, q1, _⟩ := hW'.1
            have := left_any lo1 b1 (S.drop t1) W' q1
            rw [List.length_drop, hn'.out, show (((n - t1 : Nat)) : Int) = (n : Int) - (t1 : Int) by have := ht1'.out.1; omega] at this
            exact this
          have hL2 : ∀ W', Hid (CSt w s n bm bo S b1 b2 A1 A2 C1 C2 t1 t1 t2 W' → Calls Try.prog 11 #[.pointer (some ⟨b2, 0, none⟩)] W' fun e w' => e = .returned (.int .i64 ((n : Int) - (t2 : Int))) ∧ w' = W') := fun W' hW' => by
            obtain ⟨lo1, lo2, _, q2, _⟩ := hW'.1
            have := left_any lo2 b2 (S.drop t2) W' q2
            rw [List.length_drop, hn'.out, show (((n - t2 : Nat)) : Int) = (n : Int) - (t2 : Int) by have := ht1'.out.2; omega] at this
            exact this
          clear hv hbb hk hlt
          go_wp2_with (first
            | (go_at_call 13; refine hH.out.mono ?_; rintro e wr ⟨rfl, rfl⟩)
            | (go_at_call 16; refine hR.out.mono ?_; rintro e w6 ⟨rfl, hb6⟩; have hs6 : Hid (CSt w s n bm bo S b1 b2 A1 A2 C1 C2 t1 t1 t2 w6) := hst.out.below hb6; clear hb6))
          have hs0 : Hid (CSt w s n bm bo S b1 b2 A1 A2 C1 C2 t1 t1 t2 w6.drew) := hs6.out.drewN 1
          have hcs : ∀ W', Hid (CSt w s n bm bo S b1 b2 A1 A2 C1 C2 t1 t1 t2 W' → W'.cell? ⟨bm, 0, none⟩ = some (.slice A1 n C1) ∧ W'.cell? ⟨bm, 1, none⟩ = some (.int .i64 (t1 : Int)) ∧ W'.cell? ⟨bo, 0, none⟩ = some (.slice A2 n C2) ∧ W'.cell? ⟨bo, 1, none⟩ = some (.int .i64 (t2 : Int))) := fun W' h => ⟨(two_at h.2.2.1).1, (two_at h.2.2.1).2.2.1, (two_at h.2.2.2.1).1, (two_at h.2.2.2.1).2.2.1⟩
          have cc0 := (hcs _).out hs0.out
          clear hst f0 y0 f1 y1 g0 z0 g1 z1
          go_region_held3 (fun w' => w'.cell? ⟨bm, 0, none⟩ = some (.slice A1 n C1) ∧ w'.cell? ⟨bm, 1, none⟩ = some (.int .i64 (t1 : Int)) ∧ w'.cell? ⟨bo, 0, none⟩ = some (.slice A2 n C2) ∧ w'.cell? ⟨bo, 1, none⟩ = some (.int .i64 (t2 : Int)))
            (first | exact cc8 | exact cc7 | exact cc0)
            (first
              | (go_at_call 11; refine ((hL2 w7).out hs7.out).mono ?_; rintro e w7 ⟨rfl, rfl⟩)
              | (go_at_call 11; refine ((hL1 _).out hs0.out).mono ?_; rintro e w' ⟨rfl, rfl⟩)
              | (go_at_call 19; have hq := hs7; refine (hRl _ _ _ _ ht1'.out.2).out.mono ?_; rintro e w8 ⟨rfl, hb8⟩; have hs8 : Hid (CSt w s n bm bo S b1 b2 A1 A2 C1 C2 t1 t1 t2 w8) := hs7.out.below hb8; have cc8 := (hcs _).out hs8.out; clear hq)
              | (go_at_call 19; refine (hRl _ _ _ _ ht1'.out.1).out.mono ?_; rintro e w7 ⟨rfl, hb7⟩; have hs7 : Hid (CSt w s n bm bo S b1 b2 A1 A2 C1 C2 t1 t1 t2 w7) := hs0.out.below hb7; have cc7 := (hcs _).out hs7.out; clear hb7))
          clear cc7 cc8 hb8
          go_wp2_with fail
          go_ret
          exact ⟨rfl, hs8.out.2.2.2.2.2.2.2⟩
end Go.Proofs.Ythbncinmkkipeaa
