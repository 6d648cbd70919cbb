import Derived.Test.YtdbhcemmaahemaaPkT
import Derived.BigQuiet
namespace Go.Proofs.Ytdbhcemmaahemaa
namespace Pk
open Go.RowKit Go.Sort Go.Lib
open PgMath (Inc setOf cnt)
open PgHpM (Hd)
open PgCnM (occ)
set_option linter.unusedVariables false
set_option maxRecDepth 1000000

theorem len_tot (Ss : List Hd) (i : Nat) (hi : i < Ss.length) : Ss[i].2.2.length ≤ tot (lsts Ss) := by
  have := tot_take (lsts Ss) (List.mem_map_of_mem (f := fun h : Hd => h.2.2) (List.getElem_mem hi))
  exact this
theorem lsts_at {Os Ss : List Hd} (h : lsts Os = lsts Ss) (i : Nat) (h1 : i < Os.length) (h2 : i < Ss.length) : Os[i].2.2 = Ss[i].2.2 := by
  have e := congrArg (fun l => l[i]?) h
  simp only [lsts, List.getElem?_map, List.getElem?_eq_getElem h1, List.getElem?_eq_getElem h2, Option.map_some] at e
  injection e
theorem wr_1 (n N1 i j : Nat) (hn : n ≤ 1048576) (e1 : n = N1 + 1) (e2 : N1 = i + j) : IntKind.i64.wrap ((n : Int) - 1) = (N1 : Int) ∧ IntKind.i64.wrap ((N1 : Int) - (i : Int)) = (j : Int) ∧ wrap64 ((n : Int) - 1) = (N1 : Int) ∧ wrap64 ((N1 : Int) - (i : Int)) = (j : Int) := by
  refine ⟨by rw [IntKind.wrap_i64]; omega, by rw [IntKind.wrap_i64]; omega, by unfold wrap64; omega, by unfold wrap64; omega⟩

set_option maxHeartbeats 16000000 in
theorem kept_walk (sa : Option Addr) (sc : Nat) (Ss : List Hd) (w : World) (h1 : SRow w sa Ss) (h2 : ∀ x ∈ Ss, Rd w x.1 x.2.1 x.2.2) (hc : Ss.length ≤ sc) (hm : sc ≤ maxLen) (ht : tot (lsts Ss) + Ss.length ≤ 1048576) :
    Calls Try.prog 4 #[.slice sa Ss.length sc] w fun e w' => e = .returned (.bool true) ∧ Below w.heap.size w w' := by
  have hSp := spared_any sa Ss sc w h1 h2 (by omega)
  have hA : Hid (SRow w sa Ss ∧ (∀ x ∈ Ss, Rd w x.1 x.2.1 x.2.2) ∧ tot (lsts Ss) + Ss.length ≤ 1048576) := ⟨h1, h2, ht⟩
  obtain ⟨n, hn⟩ : ∃ n, Ss.length = n := ⟨_, rfl⟩
  have hn9 : (n : Int) ≤ 1048576 := by omega
  have hn' : Hid (Ss.length = n ∧ n ≤ 1048576) := ⟨hn, by omega⟩
  rw [hn] at hSp
  rw [hn]
  clear h1 h2 hc hm ht hn
  go_enter Try.func4, Try.ntmps4
  go_wp2_with fail
  refine hSp.mono ?_
  rintro e w1 ⟨oa, oc, Os, rfl, hI, hl⟩
  rw [hl]
  have hHe : Calls Try.prog 19 #[.slice oa n oc] w1 fun e w' => ∃ ha hc, e = .returned (.slice ha n hc) ∧ OwnL w' w1.heap.size (.slice ha n hc) Os ∧ Below w1.heap.size w1 w' := by
    obtain ⟨a', c', e, r1, _⟩ := ownL_slice hI.1
    injection e with e1 _ e2
    subst e1 e2
    have := headers_any oa Os oc w1 r1 (by rw [hl]; have := hn'.out; omega)
    rw [hl] at this
    exact this
  clear hSp
  go_wp2_with fail
  refine hHe.mono ?_
  rintro e w2 ⟨ha, hc2, rfl, hOL, hb2⟩
  have hU2 : Hid (UnC w2 oa ha sa Os Ss ∧ Below w.heap.size w w2 ∧ Os.length = n) := by
    obtain ⟨i1, i2, i3, i4, i5⟩ := hI
    obtain ⟨q1, q2, q3⟩ := hA.out
    have hbw : Below w.heap.size w w2 := i5.trans (hb2.mono i5.size)
    obtain ⟨a', c', e, r1, _⟩ := ownL_slice i1
    injection e with e1 _ e2
    subst e1 e2
    obtain ⟨a'', c'', e, s2, _⟩ := ownL_slice hOL
    injection e with e5 _ e6
    subst e5
    refine ⟨⟨r1.below hb2, s2, q1.below hbw, ?_, fun x hx => (q2 x hx).below hbw, ⟨w.heap.size, fun h hh => (i4 h hh).below hb2⟩, by omega⟩, hbw, hl⟩
    rw [i3, hl, ← hn'.out.1, List.take_length]
  have hGd : Hid (∀ W, Below w2.heap.size w2 W → ∀ i, i < n → ∃ x p : Hd, (∃ sb so, sa = some ⟨sb, so, none⟩ ∧ W.cell? ⟨sb, so + i, none⟩ = some (hv x)) ∧ (∃ ob oo, oa = some ⟨ob, oo, none⟩ ∧ W.cell? ⟨ob, oo + i, none⟩ = some (hv p)) ∧ Rd W x.1 x.2.1 x.2.2 ∧ Rd W p.1 p.2.1 p.2.2 ∧ p.2.2 = x.2.2 ∧ x.2.2.length ≤ 1048576 ∧ x = Ss.getD i (none, 0, []) ∧ p = Os.getD i (none, 0, [])) := by
    intro W hW i hi
    obtain ⟨⟨u1, u2, u3, u4, u5, ⟨B, u6⟩, u7⟩, _, hOn⟩ := hU2.out
    have hiS : i < Ss.length := by rw [hn'.out.1]; exact hi
    have hiO : i < Os.length := by rw [hOn]; exact hi
    obtain ⟨sb, so, e1, c1⟩ := u3.below hW i hiS
    obtain ⟨ob, oo, e2, c2⟩ := u1.below hW i hiO
    have e3 := lsts_at u4 i hiO hiS
    have hlen : Ss[i].2.2.length ≤ 1048576 := by have := len_tot Ss i hiS; have := hA.out.2.2; omega
    refine ⟨Ss[i], Os[i], ⟨sb, so, e1, c1⟩, ⟨ob, oo, e2, c2⟩, (u5 _ (List.getElem_mem hiS)).below hW, ((u6 _ (List.getElem_mem hiO)).below hW).rd (by rw [e3]; omega), e3, hlen, by simp [List.getD, List.getElem?_eq_getElem hiS], by simp [List.getD, List.getElem?_eq_getElem hiO]⟩
  clear hHe hI hl hOL hb2 hA
  go_wp2_with fail
  go_loopw [5, 6] (fun bv iv wr => ∃ (i : Nat) (bs : List KE), i ≤ 12 ∧ i ≤ n ∧ iv = .int .i64 (i : Int) ∧ Hid (bs.length = 20 * i) ∧ Hid (KB wr w2.heap.size bv bs) ∧ Hid (Below w2.heap.size w2 wr)) (fun _ iv _ => 13 - (intOf iv).toNat)
  case atStart => exact ⟨0, [], by omega, Nat.zero_le _, rfl, rfl, kb_nil _ _, Below.refl _ _⟩
  case round =>
    obtain ⟨i, bs, hi12, hin, rfl, hbl, hKB, HB⟩ := hrel
    obtain ⟨ba0, bc0, hbv, hbcell⟩ := ownB_any hKB.out.book
    subst hbv
    have i0 : (0 : Int) ≤ (i : Int) := Int.natCast_nonneg _
    by_cases hgo : i < n ∧ i < 12
    · obtain ⟨wo, rfl⟩ : ∃ wo, wo = wr := ⟨_, rfl⟩
      obtain ⟨hin2, hi2⟩ := hgo
      have i1 : (i : Int) < (n : Int) := Int.ofNat_lt.2 hin2
      have i2 : (i : Int) < 12 := by omega
      obtain ⟨j, hj⟩ : ∃ j, n = i + j + 1 := ⟨n - 1 - i, by omega⟩
      have hjn : j < n := by omega
      obtain ⟨e1, e2, f1, f2⟩ := wr_1 n (i + j) i j (by omega) hj rfl
      obtain ⟨N1, hN1⟩ : ∃ N1 : Int, ((i + j : Nat) : Int) = N1 := ⟨_, rfl⟩
      rw [hN1] at e1 e2 f1 f2
      obtain ⟨⟨xa, xc, la⟩, ⟨aa, ac, la2⟩, ⟨sb, so, esa, hcS⟩, ⟨ob, oo, eoa, hcO⟩, _, _, e3, hla, eX, eP⟩ := hGd.out wo HB.out i hin2
      have e3' : la2 = la := e3
      subst e3'
      obtain ⟨⟨ya, yc, lb⟩, ⟨ba, bc, lb2⟩, _, ⟨ob2, oo2, eoa2, hcO2⟩, _, _, e4, hlb, eY, eR⟩ := hGd.out wo HB.out j hjn
      have e4' : lb2 = lb := e4
      subst e4'
      rw [eoa] at eoa2
      injection eoa2 with eoa2
      injection eoa2 with eo1 eo2
      subst eo1 eo2
      have hla' : la2.length ≤ 1048576 := hla
      have hlb' : lb2.length ≤ 1048576 := hlb
      have hRd : Hid (∀ W, Below w2.heap.size w2 W → Rd W aa ac la2 ∧ Rd W ba bc lb2 ∧ Rd W xa xc la2 ∧ Rd W ya yc lb2 ∧ W.cell? ⟨sb, so + i, none⟩ = some (.slice xa la2.length xc) ∧ W.cell? ⟨sb, so + j, none⟩ = some (.slice ya lb2.length yc) ∧ W.cell? ⟨ob, oo + i, none⟩ = some (.slice aa la2.length ac) ∧ W.cell? ⟨ob, oo + j, none⟩ = some (.slice ba lb2.length bc)) := by
        intro W hW
        obtain ⟨x, p, ⟨sb1, so1, es, c1⟩, ⟨ob1, oo1, eo, c2⟩, r1, r2, _, _, ex, ep⟩ := hGd.out W hW i hin2
        obtain ⟨y, q, ⟨sb3, so3, es3, c3⟩, ⟨ob3, oo3, eo3, c4⟩, r3, r4, _, _, ey, eq⟩ := hGd.out W hW j hjn
        rw [← eX] at ex
        rw [← eP] at ep
        rw [← eY] at ey
        rw [← eR] at eq
        subst ex ep ey eq
        rw [esa] at es es3
        rw [eoa] at eo eo3
        injection es with es
        injection es with q1 q2
        injection es3 with es3
        injection es3 with q3 q4
        injection eo with eo
        injection eo with q5 q6
        injection eo3 with eo3
        injection eo3 with q7 q8
        subst q1 q2 q3 q4 q5 q6 q7 q8
        exact ⟨r2, r4, r1, r3, c1, c3, c2, c4⟩
      subst esa eoa
      have hLk : Hid (∀ W, Below w2.heap.size w2 W → Lk W [(aa, ac, la2)] ∧ Lk W [(aa, ac, la2), (aa, ac, la2)] ∧ Lk W [(aa, ac, la2), (ba, bc, lb2)] ∧ Lk W [(aa, ac, la2), (ba, bc, lb2), (aa, ac, la2)] ∧ Lk W [(xa, xc, la2), (ya, yc, lb2)] ∧ Lk W [(xa, xc, la2), (ya, yc, lb2), (xa, xc, la2)]) := by
        intro W hW
        obtain ⟨r1, r2, r3, r4, _⟩ := hRd.out W hW
        refine ⟨⟨?_, ?_⟩, ⟨?_, ?_⟩, ⟨?_, ?_⟩, ⟨?_, ?_⟩, ⟨?_, ?_⟩, ⟨?_, ?_⟩⟩
        all_goals first
          | (simp only [lsts, tot, List.map_cons, List.map_nil, List.sum_cons, List.sum_nil, List.length_cons, List.length_nil]; omega)
          | (intro z hz; simp only [List.mem_cons, List.not_mem_nil, or_false] at hz; rcases hz with rfl | rfl | rfl <;> assumption)
          | (intro z hz; simp only [List.mem_cons, List.not_mem_nil, or_false] at hz; rcases hz with rfl | rfl <;> assumption)
          | (intro z hz; simp only [List.mem_cons, List.not_mem_nil, or_false] at hz; subst hz; assumption)
      obtain ⟨XL, hXL⟩ : ∃ XL, setOf la2 = XL := ⟨_, rfl⟩
      have hXn : Hid (XL.length ≤ 1048576) := by unfold Hid; rw [← hXL]; have := PgMath.setOf_len la2; omega
      have hig : Hid (i < n ∧ i < 12 ∧ n = i + j + 1 ∧ j < n ∧ la2.length ≤ 1048576 ∧ lb2.length ≤ 1048576) := ⟨hin2, hi2, hj, hjn, hla', hlb'⟩
      clear eX eP eY eR e3 e4 hla hlb hla' hlb' hi12 hin hin2 hi2 hj hjn hGd hN1
      have hS3 : Calls Try.prog 20 #[.slice xa la2.length xc] wo fun e w' => RO wo XL e w' := by have := sortO wo xa la2 xc (hRd.out wo HB.out).2.2.1 (by have := hig.out; omega); rw [hXL] at this; exact this
      have hbase : Hid (w2.heap.size ≤ wo.heap.size) := HB.out.size
      go_wp2_with fail
      refine hS3.mono ?_
      rintro e w3 ⟨wa, wc, rfl, hOw, hb3⟩
      have HB3 : Hid (Below w2.heap.size w2 w3) := HB.out.trans (hb3.mono HB.out.size)
      have hcO3 := (hRd.out w3 HB3.out).2.2.2.2.2.2.1
      have hS4 : Calls Try.prog 21 #[.slice aa la2.length ac] w3 fun e w' => RO w3 XL e w' := by have := ofO w3 aa la2 ac (hRd.out w3 HB3.out).1; rw [hXL] at this; exact this
      clear hS3 hcS hcO hcO2
      go_wp2_with fail
      refine hS4.mono ?_
      rintro e w4 ⟨a0, c0, rfl, hO4, hb4⟩
      have HB4 : Hid (Below w2.heap.size w2 w4) := HB3.out.trans (hb4.mono HB3.out.size)
      have hS5 : Calls Try.prog 22 #[.slice (some ⟨w4.heap.size, 0, none⟩) 1 1] (w4.alloc (.cells #[.slice aa la2.length ac] 35)) fun e w' => RO w4 XL e w' := by
        have := unionO w4 [(aa, ac, la2)] (hLk.out w4 HB4.out).1
        rw [show aL (lsts [(aa, ac, la2)]) 1 = XL from (aL_self la2).trans hXL] at this
        exact this
      clear hS4 hcO3
      go_wp2_with fail
      refine hS5.mono ?_
      rintro e w5 ⟨a1, c1, rfl, hO5, hb5⟩
      have HB5 : Hid (Below w2.heap.size w2 w5) := HB4.out.trans (hb5.mono HB4.out.size)
      have hS6 : Calls Try.prog 23 #[.slice (some ⟨w5.heap.size, 0, none⟩) 1 1] (w5.alloc (.cells #[.slice aa la2.length ac] 35)) fun e w' => RO w5 XL e w' := by
        have := meetO w5 (aa, ac, la2) [] (hLk.out w5 HB5.out).1
        rw [show aL (lsts [(aa, ac, la2)]) (([(aa, ac, la2)] : List Hd).length : Nat) = XL from (aL_self la2).trans hXL] at this
        exact this
      clear hS5
      go_wp2_with fail
      refine hS6.mono ?_
      rintro e w6 ⟨a2, c2, rfl, hO6, hb6⟩
      have HB6 : Hid (Below w2.heap.size w2 w6) := HB5.out.trans (hb6.mono HB5.out.size)
      have hS7 : Calls Try.prog 24 #[.slice aa la2.length ac, .slice none 0 0] w6 fun e w' => RO w6 XL e w' := by
        have := minusO w6 aa la2 ac none [] 0 (hRd.out w6 HB6.out).1 (rd_nil0 _)
        rw [mns_nil, hXL] at this
        exact this
      clear hS6
      go_wp2_with fail
      refine hS7.mono ?_
      rintro e w7 ⟨a3, c3, rfl, hO7, hb7⟩
      have HB7 : Hid (Below w2.heap.size w2 w7) := HB6.out.trans (hb7.mono HB6.out.size)
      have hS8 : Calls Try.prog 25 #[.int .i64 1, .slice (some ⟨w7.heap.size, 0, none⟩) 1 1] (w7.alloc (.cells #[.slice aa la2.length ac] 35)) fun e w' => RO w7 XL e w' := by
        have := atlO 1 w7 [(aa, ac, la2)] (hLk.out w7 HB7.out).1
        rw [show aL (lsts [(aa, ac, la2)]) 1 = XL from (aL_self la2).trans hXL] at this
        exact this
      clear hS7
      go_wp2_with fail
      refine hS8.mono ?_
      rintro e w8 ⟨a4, c4, rfl, hO8, hb8⟩
      have HB8 : Hid (Below w2.heap.size w2 w8) := HB7.out.trans (hb8.mono HB7.out.size)
      have hS9 : Calls Try.prog 22 #[.slice (some ⟨w8.heap.size, 0, none⟩) 2 2] (w8.alloc (.cells #[.slice aa la2.length ac, .slice aa la2.length ac] 35)) fun e w' => RO w8 XL e w' := by
        have := unionO w8 [(aa, ac, la2), (aa, ac, la2)] (hLk.out w8 HB8.out).2.1
        rw [show aL (lsts [(aa, ac, la2), (aa, ac, la2)]) 1 = XL from (aL_twice la2).trans hXL] at this
        exact this
      clear hS8
      go_wp2_with fail
      refine hS9.mono ?_
      rintro e w9 ⟨a5, c5, rfl, hO9, hb9⟩
      have HB9 : Hid (Below w2.heap.size w2 w9) := HB8.out.trans (hb9.mono HB8.out.size)
      clear hS9
      go_wp2_with fail
      have hMd9 : Md w9 wo.heap.size [.slice a0 XL.length c0, .slice a1 XL.length c1, .slice a2 XL.length c2, .slice a3 XL.length c3, .slice a4 XL.length c4, .slice a5 XL.length c5] [XL, XL, XL, XL, XL, XL] :=
        ((((((Md.nil w3 wo.heap.size).push hb4 hO4 (by have := hb3.size; omega)).push hb5 hO5 (by have := hb3.size; have := hb4.size; omega)).push hb6 hO6 (by have := hb3.size; have := hb4.size; have := hb5.size; omega)).push hb7 hO7 (by have := hb3.size; have := hb4.size; have := hb5.size; have := hb6.size; omega)).push hb8 hO8 (by have := hb3.size; have := hb4.size; have := hb5.size; have := hb6.size; have := hb7.size; omega)).push hb9 hO9 (by have := hb3.size; have := hb4.size; have := hb5.size; have := hb6.size; have := hb7.size; have := hb8.size; omega)
      have hwant9 : Rd w9 wa wc XL := (((((RO.rd hOw (by have := hXn.out; omega)).below hb4).below hb5).below hb6 |>.below hb7).below hb8).below hb9
      obtain ⟨WA, hWA⟩ : ∃ WA, w9.alloc (.cells #[.slice a0 XL.length c0, .slice a1 XL.length c1, .slice a2 XL.length c2, .slice a3 XL.length c3, .slice a4 XL.length c4, .slice a5 XL.length c5, .slice none 0 0, .slice none 0 0, .slice none 0 0, .slice none 0 0] 40) = WA := ⟨_, rfl⟩
      rw [hWA]
      have hbA : Below w9.heap.size w9 WA := by rw [← hWA]; exact (Below.refl _ _).alloc (Nat.le_refl _) _
      have hArr : Arr WA w9.heap.size [.slice a0 XL.length c0, .slice a1 XL.length c1, .slice a2 XL.length c2, .slice a3 XL.length c3, .slice a4 XL.length c4, .slice a5 XL.length c5, .slice none 0 0, .slice none 0 0, .slice none 0 0, .slice none 0 0] := by
        refine ⟨#[.slice a0 XL.length c0, .slice a1 XL.length c1, .slice a2 XL.length c2, .slice a3 XL.length c3, .slice a4 XL.length c4, .slice a5 XL.length c5, .slice none 0 0, .slice none 0 0, .slice none 0 0, .slice none 0 0], by rw [← hWA]; exact hp_new _ _, fun j hj => ?_⟩
        have hj' : j < 10 := hj
        have e : j = 0 ∨ j = 1 ∨ j = 2 ∨ j = 3 ∨ j = 4 ∨ j = 5 ∨ j = 6 ∨ j = 7 ∨ j = 8 ∨ j = 9 := by omega
        rcases e with rfl | rfl | rfl | rfl | rfl | rfl | rfl | rfl | rfl | rfl <;> rfl
      have HBA : Hid (Below w2.heap.size w2 WA) := HB9.out.trans (hbA.mono HB9.out.size)
      have hbo9 : Below wo.heap.size wo WA := hb3.trans (((((((hb4.trans (hb5.mono hb4.size)).trans (hb6.mono (Nat.le_trans hb4.size hb5.size))).trans (hb7.mono (Nat.le_trans (Nat.le_trans hb4.size hb5.size) hb6.size))).trans (hb8.mono (by have := hb4.size; have := hb5.size; have := hb6.size; have := hb7.size; omega))).trans (hb9.mono (by have := hb4.size; have := hb5.size; have := hb6.size; have := hb7.size; have := hb8.size; omega))).trans (hbA.mono (by have := hb4.size; have := hb5.size; have := hb6.size; have := hb7.size; have := hb8.size; have := hb9.size; omega))).mono hb3.size)
      have hb9x : Hid (wo.heap.size ≤ w9.heap.size) := by unfold Hid; have := hb3.size; have := hb4.size; have := hb5.size; have := hb6.size; have := hb7.size; have := hb8.size; have := hb9.size; omega
      have hMA : Hid (Md WA wo.heap.size [.slice a0 XL.length c0, .slice a1 XL.length c1, .slice a2 XL.length c2, .slice a3 XL.length c3, .slice a4 XL.length c4, .slice a5 XL.length c5] [XL, XL, XL, XL, XL, XL] ∧ Rd WA wa wc XL ∧ Arr WA w9.heap.size [.slice a0 XL.length c0, .slice a1 XL.length c1, .slice a2 XL.length c2, .slice a3 XL.length c3, .slice a4 XL.length c4, .slice a5 XL.length c5, .slice none 0 0, .slice none 0 0, .slice none 0 0, .slice none 0 0] ∧ Below wo.heap.size wo WA ∧ w9.heap.size < WA.heap.size) := ⟨hMd9.below hbA, hwant9.below hbA, hArr, hbo9, hArr.lt⟩
      have h6 : Hid (∀ k, k < 6 → ∃ a c, WA.cell? ⟨w9.heap.size, k, none⟩ = some (.slice a XL.length c) ∧ Rd WA a c XL) := by
        intro k hk
        have e : k = 0 ∨ k = 1 ∨ k = 2 ∨ k = 3 ∨ k = 4 ∨ k = 5 := by omega
        have hx := hXn.out
        have hc := hArr.cell (j := k) (by show k < 10; omega)
        have ho := hMA.out.1.own k hk
        rcases e with rfl | rfl | rfl | rfl | rfl | rfl <;> exact ⟨_, _, hc, Rd.of_own ho (by omega)⟩
      clear hb3 hb4 hb5 hb6 hb7 hb8 hb9 hO4 hO5 hO6 hO7 hO8 hO9 hOw HB3 HB4 HB5 HB6 HB7 HB8 HB9 hMd9 hwant9 hbA hArr hbo9
      go_loopw [10] (fun kv wr => ∃ k : Nat, k ≤ 6 ∧ kv = .int .i64 (k : Int) ∧ Hid (Below WA.heap.size WA wr)) (fun kv _ => 6 - (intOf kv).toNat)
      case atStart => exact ⟨0, Nat.zero_le _, rfl, Below.refl _ _⟩
      case round =>
        obtain ⟨k, hk, rfl, hbk⟩ := hrel
        have k0 : (0 : Int) ≤ (k : Int) := Int.natCast_nonneg _
        by_cases hk6 : k < 6
        · obtain ⟨ak, ck, hck, hRk⟩ := h6.out k hk6
          have k1 : (k : Int) < 6 := by omega
          have k2 : (k : Int) < 10 := by omega
          have hck2 : wr.cell? ⟨w9.heap.size, k, none⟩ = some (.slice ak XL.length ck) := kept hbk.out hck
          have hSm := same_yes XL XL ak wa ck wc wr (hRk.below hbk.out) (hMA.out.2.1.below hbk.out) rfl
          have hk6' : Hid (k < 6) := hk6
          clear hck hRk hk hk6 hWA
          go_wp2_with fail
          refine hSm.mono ?_
          rintro e wz ⟨rfl, hbz⟩
          have hbz' : Hid (Below WA.heap.size WA wz) := hbk.out.trans (hbz.mono hbk.out.size)
          clear hSm hbz hck2 hbk
          go_wp2_with fail
          refine ⟨⟨k + 1, hk6'.out, by simp, hbz'⟩, ?_⟩
          have := hk6'.out
          simp [intOf]
          omega
        · have k1 : ¬ (k : Int) < 6 := by omega
          have HBk : Hid (Below w2.heap.size w2 wr) := HBA.out.trans (hbk.out.mono HBA.out.size)
          obtain ⟨_, _, _, _, cX, cY, cP, cR⟩ := hRd.out wr HBk.out
          have j0 : (0 : Int) ≤ (j : Int) := Int.natCast_nonneg _
          have j1 : (j : Int) < (n : Int) := by have := hig.out; omega
          have hcc : Hid (wr.cell? ⟨sb, so + i, none⟩ = some (.slice xa la2.length xc) ∧ wr.cell? ⟨sb, so + j, none⟩ = some (.slice ya lb2.length yc)) := ⟨cX, cY⟩
          clear hk hk6 hWA h6 cX cY
          go_wp2_with fail
          refine reg17 wr sb so n sc i j N1 xa ya la2.length xc lb2.length yc _ _ rfl rfl _ hig.out.1 hig.out.2.2.2.1 e1 e2 f1 f2 hcc.out.1 hcc.out.2 ?_ _ (by kernel_rfl)
          intro o82 o83 o84 o85 o86 o87 o88 o89 o90 o91 o92 o93 o94
          clear hcc cP cR e1 e2 f1 f2
          obtain ⟨WB, hWB⟩ : ∃ WB, wr.drew.alloc (.cells #[.slice xa la2.length xc, .slice ya lb2.length yc] 35) = WB := ⟨_, rfl⟩
          rw [hWB]
          obtain ⟨pb, hpb⟩ : ∃ pb, wr.heap.size = pb := ⟨_, rfl⟩
          obtain ⟨ab, hab⟩ : ∃ ab, w9.heap.size = ab := ⟨_, rfl⟩
          have hbB : Below wr.heap.size wr WB := by rw [← hWB]; exact (Below.refl _ _).drew.alloc (Nat.le_refl _) _
          have hsB : WB.heap.size = pb + 1 := by rw [← hWB, ← hpb]; simp
          have hPr : SRow WB (some ⟨pb, 0, none⟩) [(xa, xc, la2), (ya, yc, lb2)] := by rw [← hWB, ← hpb]; exact srow_lit wr.drew [(xa, xc, la2), (ya, yc, lb2)] _
          have HBB : Hid (Below w2.heap.size w2 WB) := HBk.out.trans (hbB.mono HBk.out.size)
          have hboB : Hid (Below wo.heap.size wo WB) := hMA.out.2.2.2.1.trans ((hbk.out.trans (hbB.mono hbk.out.size)).mono hMA.out.2.2.2.1.size)
          have hRs : Rs WB wo.heap.size ab [.slice a0 XL.length c0, .slice a1 XL.length c1, .slice a2 XL.length c2, .slice a3 XL.length c3, .slice a4 XL.length c4, .slice a5 XL.length c5, .slice none 0 0, .slice none 0 0, .slice none 0 0, .slice none 0 0] [.slice a0 XL.length c0, .slice a1 XL.length c1, .slice a2 XL.length c2, .slice a3 XL.length c3, .slice a4 XL.length c4, .slice a5 XL.length c5] [XL, XL, XL, XL, XL, XL] WB := by
            rw [← hab]
            exact ⟨⟨rfl, rfl, rfl, Nat.le_refl _, fun _ _ _ => rfl⟩, (hMA.out.2.2.1.below hbk.out).below hbB, (hMA.out.1.below hbk.out).below hbB⟩
          have hoa : Hid (wo.heap.size ≤ ab ∧ w2.heap.size ≤ ab ∧ ab < pb ∧ wo.heap.size ≤ WB.heap.size) := by
            have q1 := hMA.out.2.2.2.2
            have q2 := hbk.out.size
            have q3 := hb9x.out
            refine ⟨?_, ?_, ?_, hboB.out.size⟩
            · rw [← hab]; exact q3
            · have := hbase.out; rw [← hab]; omega
            · rw [← hab, ← hpb]; omega
          have hPrB : Hid (SRow WB (some ⟨pb, 0, none⟩) [(xa, xc, la2), (ya, yc, lb2)] ∧ WB.heap.size = pb + 1) := ⟨hPr, hsB⟩
          rw [hpb, hab]
          clear hWB hPr hsB hbB hMA hbk HBk HBA hpb hab k1
          obtain ⟨L6, hL6⟩ : ∃ L, aL [la2, lb2, la2] 2 = L := ⟨_, rfl⟩
          obtain ⟨L7, hL7⟩ : ∃ L, aL [la2, lb2] 2 = L := ⟨_, rfl⟩
          obtain ⟨L8, hL8⟩ : ∃ L, mns (setOf la2) (setOf lb2) = L := ⟨_, rfl⟩
          obtain ⟨L9, hL9⟩ : ∃ L, aL [la2, lb2] 1 = L := ⟨_, rfl⟩
          have hL : Hid (aL [la2, lb2, la2] 2 = L6 ∧ aL [la2, lb2] 2 = L7 ∧ mns (setOf la2) (setOf lb2) = L8 ∧ aL [la2, lb2] 1 = L9) := ⟨hL6, hL7, hL8, hL9⟩
          have hLn : Hid (L6.length ≤ 4194304 ∧ L7.length ≤ 4194304 ∧ L8.length ≤ 4194304 ∧ L9.length ≤ 4194304) := by
            have q1 := aL_len [la2, lb2, la2] 2
            have q2 := aL_len [la2, lb2] 2
            have q3 := aL_len [la2, lb2] 1
            have q4 : (mns (setOf la2) (setOf lb2)).length ≤ (setOf la2).length := List.length_filter_le _ _
            have q5 := PgMath.setOf_len la2
            have q6 := hig.out
            simp only [tot, List.map_cons, List.map_nil, List.sum_cons, List.sum_nil] at q1 q2 q3
            rw [hL6] at q1
            rw [hL7] at q2
            rw [hL9] at q3
            rw [hL8] at q4
            refine ⟨?_, ?_, ?_, ?_⟩ <;> omega
          have hS18 : Calls Try.prog 25 #[.int .i64 2, .slice (some ⟨WB.heap.size, 0, none⟩) 3 3] (WB.alloc (.cells #[.slice aa la2.length ac, .slice ba lb2.length bc, .slice aa la2.length ac] 35)) fun e w' => RO WB L6 e w' := by
            have := atlO 2 WB [(aa, ac, la2), (ba, bc, lb2), (aa, ac, la2)] (hLk.out WB HBB.out).2.2.2.1
            rw [show aL (lsts [(aa, ac, la2), (ba, bc, lb2), (aa, ac, la2)]) 2 = L6 from hL6] at this
            exact this
          clear hL6 hL7 hL8 hL9
          go_wp2_with fail
          refine hS18.mono ?_
          rintro e w18 ⟨b6, d6, rfl, hO18, hb18⟩
          obtain ⟨hc18, hf18, hR18⟩ := hRs.push hb18 hO18 hoa.out.2.2.2 6 (by simp)
          have hc18' : w18.cell? ⟨ab, 6, none⟩ = some (.slice none 0 0) := hc18
          obtain ⟨W18, hW18⟩ : ∃ W, w18.setCell ⟨ab, 6, none⟩ (.slice b6 L6.length d6) = W := ⟨_, rfl⟩
          rw [hW18] at hR18
          have hRs18 : Rs WB wo.heap.size ab [.slice a0 XL.length c0, .slice a1 XL.length c1, .slice a2 XL.length c2, .slice a3 XL.length c3, .slice a4 XL.length c4, .slice a5 XL.length c5, .slice b6 L6.length d6, .slice none 0 0, .slice none 0 0, .slice none 0 0] [.slice a0 XL.length c0, .slice a1 XL.length c1, .slice a2 XL.length c2, .slice a3 XL.length c3, .slice a4 XL.length c4, .slice a5 XL.length c5, .slice b6 L6.length d6] [XL, XL, XL, XL, XL, XL, L6] W18 := hR18
          have HB18 : Hid (Below w2.heap.size w2 W18) := hRs18.bel HBB.out hoa.out.2.1
          clear hS18 hO18 hb18 hc18 hR18 hRs
          have hS19 : Calls Try.prog 23 #[.slice (some ⟨W18.heap.size, 0, none⟩) 2 2] (W18.alloc (.cells #[.slice aa la2.length ac, .slice ba lb2.length bc] 35)) fun e w' => RO W18 L7 e w' := by
            have := meetO W18 (aa, ac, la2) [(ba, bc, lb2)] (hLk.out W18 HB18.out).2.2.1
            rw [show aL (lsts [(aa, ac, la2), (ba, bc, lb2)]) (([(aa, ac, la2), (ba, bc, lb2)] : List Hd).length : Nat) = L7 from hL.out.2.1] at this
            exact this
          go_wp2_with fail
          try rw [hW18]
          clear hW18 hc18' hf18
          refine hS19.mono ?_
          rintro e w19 ⟨b7, d7, rfl, hO19, hb19⟩
          obtain ⟨hc19, hf19, hR19⟩ := hRs18.push hb19 hO19 hoa.out.2.2.2 7 (by simp)
          have hc19' : w19.cell? ⟨ab, 7, none⟩ = some (.slice none 0 0) := hc19
          obtain ⟨W19, hW19⟩ : ∃ W, w19.setCell ⟨ab, 7, none⟩ (.slice b7 L7.length d7) = W := ⟨_, rfl⟩
          rw [hW19] at hR19
          have hRs19 : Rs WB wo.heap.size ab [.slice a0 XL.length c0, .slice a1 XL.length c1, .slice a2 XL.length c2, .slice a3 XL.length c3, .slice a4 XL.length c4, .slice a5 XL.length c5, .slice b6 L6.length d6, .slice b7 L7.length d7, .slice none 0 0, .slice none 0 0] [.slice a0 XL.length c0, .slice a1 XL.length c1, .slice a2 XL.length c2, .slice a3 XL.length c3, .slice a4 XL.length c4, .slice a5 XL.length c5, .slice b6 L6.length d6, .slice b7 L7.length d7] [XL, XL, XL, XL, XL, XL, L6, L7] W19 := hR19
          have HB19 : Hid (Below w2.heap.size w2 W19) := hRs19.bel HBB.out hoa.out.2.1
          clear hS19 hO19 hb19 hc19 hR19 hRs18
          have hS20 : Calls Try.prog 24 #[.slice aa la2.length ac, .slice ba lb2.length bc] W19 fun e w' => RO W19 L8 e w' := by
            have := minusO W19 aa la2 ac ba lb2 bc (hRd.out W19 HB19.out).1 (hRd.out W19 HB19.out).2.1
            rw [hL.out.2.2.1] at this
            exact this
          go_wp2_with fail
          try rw [hW19]
          clear hW19 hc19' hf19
          refine hS20.mono ?_
          rintro e w20 ⟨b8, d8, rfl, hO20, hb20⟩
          obtain ⟨hc20, hf20, hR20⟩ := hRs19.push hb20 hO20 hoa.out.2.2.2 8 (by simp)
          have hc20' : w20.cell? ⟨ab, 8, none⟩ = some (.slice none 0 0) := hc20
          obtain ⟨W20, hW20⟩ : ∃ W, w20.setCell ⟨ab, 8, none⟩ (.slice b8 L8.length d8) = W := ⟨_, rfl⟩
          rw [hW20] at hR20
          have hRs20 : Rs WB wo.heap.size ab [.slice a0 XL.length c0, .slice a1 XL.length c1, .slice a2 XL.length c2, .slice a3 XL.length c3, .slice a4 XL.length c4, .slice a5 XL.length c5, .slice b6 L6.length d6, .slice b7 L7.length d7, .slice b8 L8.length d8, .slice none 0 0] [.slice a0 XL.length c0, .slice a1 XL.length c1, .slice a2 XL.length c2, .slice a3 XL.length c3, .slice a4 XL.length c4, .slice a5 XL.length c5, .slice b6 L6.length d6, .slice b7 L7.length d7, .slice b8 L8.length d8] [XL, XL, XL, XL, XL, XL, L6, L7, L8] W20 := hR20
          have HB20 : Hid (Below w2.heap.size w2 W20) := hRs20.bel HBB.out hoa.out.2.1
          clear hS20 hO20 hb20 hc20 hR20 hRs19
          have hS21 : Calls Try.prog 22 #[.slice (some ⟨W20.heap.size, 0, none⟩) 2 2] (W20.alloc (.cells #[.slice aa la2.length ac, .slice ba lb2.length bc] 35)) fun e w' => RO W20 L9 e w' := by
            have := unionO W20 [(aa, ac, la2), (ba, bc, lb2)] (hLk.out W20 HB20.out).2.2.1
            rw [show aL (lsts [(aa, ac, la2), (ba, bc, lb2)]) 1 = L9 from hL.out.2.2.2] at this
            exact this
          go_wp2_with fail
          try rw [hW20]
          clear hW20 hc20' hf20
          refine hS21.mono ?_
          rintro e w21 ⟨b9, d9, rfl, hO21, hb21⟩
          obtain ⟨hc21, hf21, hR21⟩ := hRs20.push hb21 hO21 hoa.out.2.2.2 9 (by simp)
          have hc21' : w21.cell? ⟨ab, 9, none⟩ = some (.slice none 0 0) := hc21
          obtain ⟨W21, hW21⟩ : ∃ W, w21.setCell ⟨ab, 9, none⟩ (.slice b9 L9.length d9) = W := ⟨_, rfl⟩
          rw [hW21] at hR21
          have hRs21 : Rs WB wo.heap.size ab [.slice a0 XL.length c0, .slice a1 XL.length c1, .slice a2 XL.length c2, .slice a3 XL.length c3, .slice a4 XL.length c4, .slice a5 XL.length c5, .slice b6 L6.length d6, .slice b7 L7.length d7, .slice b8 L8.length d8, .slice b9 L9.length d9] [.slice a0 XL.length c0, .slice a1 XL.length c1, .slice a2 XL.length c2, .slice a3 XL.length c3, .slice a4 XL.length c4, .slice a5 XL.length c5, .slice b6 L6.length d6, .slice b7 L7.length d7, .slice b8 L8.length d8, .slice b9 L9.length d9] [XL, XL, XL, XL, XL, XL, L6, L7, L8, L9] W21 := hR21
          have HB21 : Hid (Below w2.heap.size w2 W21) := hRs21.bel HBB.out hoa.out.2.1
          clear hS21 hO21 hb21 hc21 hR21 hRs20
          go_wp2_with fail
          try rw [hW21]
          clear hW21 hc21' hf21
          have hP21 : SRow W21 (some ⟨pb, 0, none⟩) [(xa, xc, la2), (ya, yc, lb2)] := srow_ch hPrB.out.1 hRs21.ch (fun b off e q => by
            have q1 : some (⟨pb, 0, none⟩ : Addr) = some ⟨b, off, none⟩ := e
            injection q1 with q1
            injection q1 with q1
            have q' : b = ab := q
            have := hoa.out.2.2.1
            omega)
          have hcP : W21.cell? ⟨pb, 0, none⟩ = some (.slice xa la2.length xc) ∧ W21.cell? ⟨pb, 1, none⟩ = some (.slice ya lb2.length yc) := by
            obtain ⟨b, off, e, h⟩ := hP21 0 (by simp)
            obtain ⟨b', off', e', h'⟩ := hP21 1 (by simp)
            injection e with e
            injection e with q1 q2
            injection e' with e'
            injection e' with q3 q4
            subst q1 q2 q3 q4
            exact ⟨h, h'⟩
          refine reg22 W21 pb xa ya la2.length xc lb2.length yc _ _ rfl rfl _ hcP.1 hcP.2 ?_ _ (by kernel_rfl)
          intro o115 o116 o117 o118 o119 o120 o121 o122 o123 o124
          obtain ⟨W22, hW22⟩ : ∃ W22, W21.drew.alloc (.cells #[.slice xa la2.length xc, .slice ya lb2.length yc, .slice xa la2.length xc] 35) = W22 := ⟨_, rfl⟩
          rw [hW22]
          obtain ⟨tb, htb⟩ : ∃ tb, W21.heap.size = tb := ⟨_, rfl⟩
          have hb22 : Below W21.heap.size W21 W22 := by rw [← hW22]; exact (Below.refl _ _).drew.alloc (Nat.le_refl _) _
          have hT22 : Hid (SRow W22 (some ⟨tb, 0, none⟩) [(xa, xc, la2), (ya, yc, lb2), (xa, xc, la2)]) := by unfold Hid; rw [← hW22, ← htb]; exact srow_lit W21.drew [(xa, xc, la2), (ya, yc, lb2), (xa, xc, la2)] _
          have hP22 : Hid (SRow W22 (some ⟨pb, 0, none⟩) [(xa, xc, la2), (ya, yc, lb2)]) := hP21.below hb22
          have hRs22 : Hid (Rs WB wo.heap.size ab [.slice a0 XL.length c0, .slice a1 XL.length c1, .slice a2 XL.length c2, .slice a3 XL.length c3, .slice a4 XL.length c4, .slice a5 XL.length c5, .slice b6 L6.length d6, .slice b7 L7.length d7, .slice b8 L8.length d8, .slice b9 L9.length d9] [.slice a0 XL.length c0, .slice a1 XL.length c1, .slice a2 XL.length c2, .slice a3 XL.length c3, .slice a4 XL.length c4, .slice a5 XL.length c5, .slice b6 L6.length d6, .slice b7 L7.length d7, .slice b8 L8.length d8, .slice b9 L9.length d9] [XL, XL, XL, XL, XL, XL, L6, L7, L8, L9] W22) := hRs21.below hb22
          have HB22 : Hid (Below w2.heap.size w2 W22) := HB21.out.trans (hb22.mono HB21.out.size)
          have hcP22 : Hid (W22.cell? ⟨pb, 0, none⟩ = some (.slice xa la2.length xc) ∧ W22.cell? ⟨pb, 1, none⟩ = some (.slice ya lb2.length yc)) := ⟨kept hb22 hcP.1, kept hb22 hcP.2⟩
          rw [htb]
          clear hP21 hcP hb22 hRs21 hPrB htb hW22 HB18 HB19 HB20 HB21
          go_wp2_with fail
          have hk2 := hLk.out W22 HB22.out
          have hl4 := hLn.out
          refine reg23 W22 ab pb tb xa ya b6 b7 b8 b9 la2.length xc lb2.length yc L6.length d6 L7.length d7 L8.length d8 L9.length d9 (Gd L6) (Gd L7) (Gd L8) (Gd L9) _
            ⟨hRs22.out.arr.cell (j := 6) (by simp), hRs22.out.arr.cell (j := 7) (by simp), hRs22.out.arr.cell (j := 8) (by simp), hRs22.out.arr.cell (j := 9) (by simp), hcP22.out.1, hcP22.out.2⟩
            (by have := refA 2 W22 (some ⟨tb, 0, none⟩) [(xa, xc, la2), (ya, yc, lb2), (xa, xc, la2)] 3 ⟨hT22.out, hk2.2.2.2.2.2⟩; rw [show aL (lsts [(xa, xc, la2), (ya, yc, lb2), (xa, xc, la2)]) 2 = L6 from hL.out.1] at this; exact this)
            (samG L6 W22 b6 d6 (Rd.of_own (hRs22.out.md.own 6 (by simp)) (by show L6.length * 8 ≤ _; omega)))
            (by have := refM W22 (some ⟨pb, 0, none⟩) (xa, xc, la2) [(ya, yc, lb2)] 2 ⟨hP22.out, hk2.2.2.2.2.1⟩; rw [show aL (lsts [(xa, xc, la2), (ya, yc, lb2)]) (([(xa, xc, la2), (ya, yc, lb2)] : List Hd).length : Nat) = L7 from hL.out.2.1] at this; exact this)
            (samG L7 W22 b7 d7 (Rd.of_own (hRs22.out.md.own 7 (by simp)) (by show L7.length * 8 ≤ _; omega)))
            (by have := refN W22 xa la2 xc ya lb2 yc (hRd.out W22 HB22.out).2.2.1 (hRd.out W22 HB22.out).2.2.2.1 (by have := hig.out; omega) (by have := hig.out; omega); rw [hL.out.2.2.1] at this; exact this)
            (samG L8 W22 b8 d8 (Rd.of_own (hRs22.out.md.own 8 (by simp)) (by show L8.length * 8 ≤ _; omega)))
            (by have := refA 1 W22 (some ⟨pb, 0, none⟩) [(xa, xc, la2), (ya, yc, lb2)] 2 ⟨hP22.out, hk2.2.2.2.2.1⟩; rw [show aL (lsts [(xa, xc, la2), (ya, yc, lb2)]) 1 = L9 from hL.out.2.2.2] at this; exact this)
            (samG L9 W22 b9 d9 (Rd.of_own (hRs22.out.md.own 9 (by simp)) (by show L9.length * 8 ≤ _; omega)))
            ?_ _ (by kernel_rfl)
          intro o125 o126 o127 o128 o129 o130 o131 o132 o133 o134 o135 o136 o137 o138 o139 o140 o141 o142 o143 o144 o145 o146 o147 o148 o149 o150 o151 o152 o153 o154 o155 o156 o157 o158 W23 hb23
          have hRs23 := hRs22.out.below hb23
          obtain ⟨VS, hVS⟩ : ∃ VS : List Value, [.slice a0 XL.length c0, .slice a1 XL.length c1, .slice a2 XL.length c2, .slice a3 XL.length c3, .slice a4 XL.length c4, .slice a5 XL.length c5, .slice b6 L6.length d6, .slice b7 L7.length d7, .slice b8 L8.length d8, .slice b9 L9.length d9] = VS := ⟨_, rfl⟩
          obtain ⟨LS, hLS⟩ : ∃ LS : List (List Int), [XL, XL, XL, XL, XL, XL, L6, L7, L8, L9] = LS := ⟨_, rfl⟩
          have hVl : Hid (VS.length = 10) := by unfold Hid; rw [← hVS]; rfl
          have hLens : Hid (∀ k, k < 10 → (LS.getD k []).length ≤ 4194304) := by
            intro k hk
            have e : k = 0 ∨ k = 1 ∨ k = 2 ∨ k = 3 ∨ k = 4 ∨ k = 5 ∨ k = 6 ∨ k = 7 ∨ k = 8 ∨ k = 9 := by omega
            have hx := hXn.out
            rw [← hLS]
            rcases e with rfl | rfl | rfl | rfl | rfl | rfl | rfl | rfl | rfl | rfl
            · show XL.length ≤ _; omega
            · show XL.length ≤ _; omega
            · show XL.length ≤ _; omega
            · show XL.length ≤ _; omega
            · show XL.length ≤ _; omega
            · show XL.length ≤ _; omega
            · exact hl4.1
            · exact hl4.2.1
            · exact hl4.2.2.1
            · exact hl4.2.2.2
          rw [hVS, hLS] at hRs23
          have hSep : Hid (∀ i j, i < 10 → j < 10 → i ≠ j → ∀ g, (VS.getD i undef).ownBlock = some g → (VS.getD j undef).ownBlock ≠ some g) := fun i j hi hj => hRs23.md.sep i j (by rw [hVl.out]; exact hi) (by rw [hVl.out]; exact hj)
          have hRk : Hid (Rk w2 wo.heap.size 0 ab (10 * i) VS LS (.slice ba0 (kb bs).length bc0) bs W23) := hRs23.rk hVl.out (hRs23.bel hboB.out hoa.out.1) (hRs23.bel HBB.out hoa.out.2.1) hKB.out (by have := hbl.out; omega) hoa.out.1
          have hKBo : Hid (bs.length = 20 * i) := hbl
          clear hk2 hl4 hRs22 hRs23 hVS hLS hb23 hT22 hP22 hcP22 HB22 hL hLn hKB hbl hboB HBB hLk hRd hXL hbcell
          go_wp2_with fail
          go_loopw [5, 15] (fun bv kv wr => ∃ (k : Nat) (bs : List KE), k ≤ 10 ∧ kv = .int .i64 (k : Int) ∧ Hid (Rk w2 wo.heap.size k ab (10 * i) VS LS bv bs wr)) (fun _ kv _ => 10 - (intOf kv).toNat)
          case atStart => exact ⟨0, bs, Nat.zero_le _, rfl, hRk.out⟩
          case round =>
            obtain ⟨k, bs, hk10, rfl, hR⟩ := hrel
            clear hRk hKBo
            obtain ⟨Wk, rfl⟩ : ∃ Wk, Wk = wr := ⟨_, rfl⟩
            obtain ⟨ba2, bc2, rfl, _⟩ := ownB_any hR.out.kbk.book
            have k0 : (0 : Int) ≤ (k : Int) := Int.natCast_nonneg _
            by_cases hk : k < 10
            · have k1 : (k : Int) < 10 := by omega
              obtain ⟨hOl, hFl⟩ := hR.out.left k (Nat.le_refl _) hk
              obtain ⟨L, hLe⟩ : ∃ L, LS.getD k [] = L := ⟨_, rfl⟩
              have hLn : L.length ≤ 4194304 := by rw [← hLe]; exact hLens.out k hk
              have hcl := hR.out.arr.cell (j := k) (by rw [hVl.out]; exact hk)
              have hdk := fun j hj hjk => hSep.out j k hj hk hjk
              have hab2 := arr_ne (g := 0) hR.out.arr hOl
              have hrk := fun g hg => (ownI_lt hOl (g := g) hg).1
              obtain ⟨lv, hlv⟩ : ∃ lv, VS.getD k undef = lv := ⟨_, rfl⟩
              rw [hLe, hlv] at hOl
              rw [hlv] at hFl hcl hdk hab2 hrk
              obtain ⟨la, lc, rfl⟩ := own_base2 hOl
              obtain ⟨nn, hnn⟩ : ∃ nn, L.length = nn := ⟨_, rfl⟩
              rw [hnn] at hOl hFl hcl hdk hab2 hrk hLn
              obtain ⟨t, ht⟩ : ∃ t, 10 * i + k = t := ⟨_, rfl⟩
              obtain ⟨N, hN⟩ : ∃ N, (kb bs).length = N := ⟨_, rfl⟩
              have hNt : N = 2 * t := by have := hR.out.len; rw [← hN]; unfold kb; rw [List.length_map]; omega
              have ht2 : t ≤ 2000 := by have := hig.out; omega
              obtain ⟨m, hm⟩ : ∃ m : Int, (t : Int) + 1000000 = m := ⟨_, rfl⟩
              have q1 : Int.tdiv (N : Int) 2 = (t : Int) := by rw [Int.tdiv_eq_ediv_of_nonneg (by omega), hNt]; omega
              have t0 : (0 : Int) ≤ (t : Int) := Int.natCast_nonneg _
              have t1 : (t : Int) ≤ 2000 := by omega
              have hA0 : Hid (OwnI Wk wo.heap.size (.slice la nn lc) L ∧ L.length = nn ∧ nn ≤ 4194304 ∧ k < 10 ∧ m = mkI t ∧ t ≤ 2000 ∧ N = 2 * t ∧ (kb bs).length = N ∧ 10 * i + k = t) := ⟨hOl, hnn, hLn, hk, by rw [← hm]; rfl, ht2, hNt, hN, ht⟩
              have hF' : Hid (∀ g, (Value.slice la nn lc).ownBlock = some g → Free (.slice ba2 (kb bs).length bc2) bs g) := hFl
              have hD' : Hid ((∀ j, j < 10 → j ≠ k → ∀ g, (VS.getD j undef).ownBlock = some g → (Value.slice la nn lc).ownBlock ≠ some g) ∧ (Value.slice la nn lc).ownBlock ≠ some ab ∧ ∀ g, (Value.slice la nn lc).ownBlock = some g → wo.heap.size ≤ g) := ⟨hdk, hab2, hrk⟩
              have hcl' : Hid (Wk.cell? ⟨ab, k, none⟩ = some (.slice la nn lc)) := hcl
              rw [hN]
              clear hOl hFl hcl hdk hab2 hrk hLn hnn hLe hlv ht hN hNt ht2 hk hk10
              go_wp2_with fail
              try rw [hm]
              clear hm q1 t0 t1
              go_loopw [17] (fun jv wr => ∃ j : Nat, j ≤ nn ∧ jv = .int .i64 (j : Int) ∧ Hid (OwnI wr wo.heap.size (.slice la nn lc) (msL m j L) ∧ Ch (fun g => (Value.slice la nn lc).ownBlock = some g) Wk wr)) (fun jv _ => nn - (intOf jv).toNat)
              case atStart => exact ⟨0, Nat.zero_le _, rfl, by rw [show msL m 0 L = L by unfold msL; simp]; exact hA0.out.1, ⟨rfl, rfl, rfl, Nat.le_refl _, fun _ _ _ => rfl⟩⟩
              case round =>
                obtain ⟨j2, hj2, rfl, HO⟩ := hrel
                have j0 : (0 : Int) ≤ (j2 : Int) := Int.natCast_nonneg _
                have hn4 := hA0.out.2.2.1
                have hck : wr.cell? ⟨ab, k, none⟩ = some (.slice la nn lc) := by
                  rw [World.cell?_of_block (w := Wk) (HO.out.2.2.2.2.2 ab (World.block_lt_of_cell? Wk _ hcl'.out) (fun q => hD'.out.2.1 q))]
                  exact hcl'.out
                by_cases hlt : j2 < nn
                · have j1 : (j2 : Int) < (nn : Int) := Int.ofNat_lt.2 hlt
                  have hlk : (msL m j2 L).length = nn := by rw [msL_len m j2 L (by have := hA0.out.2.1; omega), hA0.out.2.1]
                  obtain ⟨g, rfl⟩ : ∃ g, la = some ⟨g, 0, none⟩ := by
                    rcases ownI_form HO.out.1 with ⟨h, h'⟩ | ⟨g, cap, h, _⟩
                    · rw [h'] at hlk; simp at hlk; omega
                    · injection h with h; exact ⟨g, h⟩
                  have hO1 : OwnI wr wo.heap.size (.slice (some ⟨g, 0, none⟩) (msL m j2 L).length lc) (msL m j2 L) := by rw [hlk]; exact HO.out.1
                  have q0 := ownI_cell hO1 j2 (by omega)
                  have r0 := own_free (show wr.ownsRow wo.heap.size 2 1 _ (msL m j2 L).length (iv (msL m j2 L)) from hO1) j2
                  have hset := ownI_set hO1 j2 m
                  rw [msL_step m j2 L (by have := hA0.out.2.1; omega), hlk] at hset
                  have hfin : Hid (OwnI (wr.setCell ⟨g, j2, none⟩ (.int .i64 m)) wo.heap.size (.slice (some ⟨g, 0, none⟩) nn lc) (msL m (j2 + 1) L) ∧ Ch (fun x => (Value.slice (some ⟨g, 0, none⟩) nn lc).ownBlock = some x) Wk (wr.setCell ⟨g, j2, none⟩ (.int .i64 m))) := ⟨hset, HO.out.2.put g _ _ rfl⟩
                  have hlt' : Hid (j2 < nn) := hlt
                  generalize (msL m j2 L)[j2] = z0 at *
                  clear HO hO1 hset hlk hlt hj2
                  go_wp2_with fail
                  refine ⟨⟨j2 + 1, hlt'.out, by simp, hfin.out⟩, ?_⟩
                  have := hlt'.out
                  simp [intOf]
                  omega
                · have j1 : ¬ (j2 : Int) < (nn : Int) := by omega
                  have hje : Hid (j2 = nn) := by unfold Hid; omega
                  have hck' : Hid (wr.cell? ⟨ab, k, none⟩ = some (.slice la nn lc)) := hck
                  clear hlt hj2
                  go_wp2_with fail
                  have hOr : OwnI wr.drew wo.heap.size (.slice la nn lc) (List.replicate nn (mkI t)) := by
                    have h := HO.out.1
                    rw [hje.out, hA0.out.2.2.2.2.1] at h
                    have h5 := msL_end (mkI t) L
                    rw [hA0.out.2.1] at h5
                    rw [h5] at h
                    exact ownI_below h ((Below.refl _ _).drew)
                  have hcD : Ch (fun g => (Value.slice la nn lc).ownBlock = some g) Wk wr.drew := HO.out.2.trans (Ch.of_below (Below.refl _ _).drew)
                  have hKr : KB wr.drew w2.heap.size (.slice ba2 (kb bs).length bc2) bs := hR.out.kbk.ch hcD (fun g hg q => (hF'.out g q).1 hg) (fun x hx g hg q => (hF'.out g q).2 x hx hg)
                  have hz1 : wo.heap.size ≤ wr.drew.heap.size := by
                    have q1 := hoa.out.1
                    have q2 := World.block_lt_of_cell? wr _ hck'.out
                    have q3 : ab < wr.heap.size := q2
                    show wo.heap.size ≤ wr.heap.size
                    omega
                  have hz2 : w2.heap.size ≤ wr.drew.heap.size := Nat.le_trans hbase.out hz1
                  obtain ⟨more, W2, bv', W4, r1, r2, ⟨ma, mc, rfl⟩, hc2', hK4, hc4, hF4⟩ := keep_two (t := t) (n := nn) hOr hKr hF'.out (by have := hR.out.len; have := hA0.out.2.2.2.2.2.2.2.2; omega) hA0.out.2.2.2.2.2.1 (by omega) hz2 hz1
                  have hRn : Hid (Rk w2 wo.heap.size (k + 1) ab (10 * i) VS LS bv' (bs ++ [(.slice la nn lc, mkI t, nn), (.slice ma (nn + 1) mc, mkI t, nn + 1)]) W4) := hR.out.step hA0.out.2.2.2.1 hbase.out hD'.out.2.2 hD'.out.1 hD'.out.2.1 hcD hc4 hK4 hF4
                  have h2c : W2.cell? ⟨ab, k, none⟩ = some (.slice la nn lc) := by
                    rw [World.cell?_of_block (w := wr.drew) (hc2'.2.2.2.2 ab (World.block_lt_of_cell? wr _ hck'.out) (fun q => hD'.out.2.1 q))]
                    exact hck'.out
                  rw [← hA0.out.2.2.2.2.1] at r1
                  rw [hA0.out.2.2.2.2.2.2.2.1] at r2
                  refine reg33 wr W2 W4 ab k nn N m la ba2 ma lc bc2 mc bv' _ hA0.out.2.2.2.1 hck'.out r1 r2 h2c ?_ _ (by kernel_rfl)
                  intro o182 o183 o184 o185 o186 o187 o188 o189 o190 o191 o192 o193
                  have hkk : Hid (k + 1 ≤ 10) := hA0.out.2.2.2.1
                  clear hOr hcD hKr hz1 hz2 r1 r2 hc2' hK4 hc4 hF4 h2c HO hA0 hF' hD' hcl' hck' hck hR hje hn4 hSep hLens hVl j1 j0
                  go_wp2_with fail
                  refine ⟨⟨k + 1, _, hkk.out, by simp, hRn⟩, ?_⟩
                  have := hkk.out
                  simp [intOf]
                  omega
            · have k1 : ¬ (k : Int) < 10 := by omega
              have hlenN : Hid (bs.length = 20 * (i + 1)) := by unfold Hid; have := hR.out.len; omega
              have hKn : Hid (KB Wk w2.heap.size (.slice ba2 (kb bs).length bc2) bs ∧ Below w2.heap.size w2 Wk) := ⟨hR.out.kbk, hR.out.bel⟩
              have hi3 : Hid (i + 1 ≤ 12 ∧ i + 1 ≤ n) := by have := hig.out; exact ⟨by omega, by omega⟩
              clear hR hk hk10 hSep hLens hVl
              go_wp2_with fail
              refine ⟨⟨i + 1, bs, hi3.out.1, hi3.out.2, by simp, hlenN, hKn.out.1, hKn.out.2⟩, ?_⟩
              have := hi3.out.1
              simp [intOf]
              omega
    · have hKr : Hid (KB wr w2.heap.size (.slice ba0 (kb bs).length bc0) bs) := hKB.out
      have hsm : Hid ((kb bs).length = bs.length ∧ bs.length ≤ 240) := ⟨List.length_map _, by have := hbl.out; omega⟩
      have hbc : Hid (∀ i (hi : i < (kb bs).length), ∃ b, ba0 = some ⟨b, 0, none⟩ ∧ wr.cell? ⟨b, i, none⟩ = some (kb bs)[i]) := hbcell
      have HB' : Hid (Below w2.heap.size w2 wr) := HB
      have hcs' : (¬ (i : Int) < (n : Int)) ∨ ((i : Int) < (n : Int) ∧ ¬ (i : Int) < 12) := by omega
      clear hgo hbcell hKB hbl hi12 hin HB
      obtain ⟨wo, hwo⟩ : ∃ wo, wo = wr := ⟨_, rfl⟩
      rw [← hwo] at hKr hbc HB'
      rcases hcs' with i1 | ⟨i1, i2⟩
      all_goals
        go_wp2_with fail
        go_loopw [18] (fun xv w' => ∃ x : Nat, x ≤ 12 ∧ x ≤ n ∧ xv = .int .i64 (x : Int) ∧ Hid (Below wo.heap.size wo w')) (fun xv _ => 13 - (intOf xv).toNat)
        case atStart => exact ⟨0, by omega, Nat.zero_le _, rfl, by rw [hwo]; exact Below.refl _ _⟩
        case round =>
          obtain ⟨x, hx12, hxn, rfl, HBx⟩ := hrel
          clear hwo
          obtain ⟨wl, rfl⟩ : ∃ wl, wl = wr := ⟨_, rfl⟩
          have x0 : (0 : Int) ≤ (x : Int) := Int.natCast_nonneg _
          have HBl : Hid (Below w2.heap.size w2 wl) := HB'.out.trans (HBx.out.mono HB'.out.size)
          by_cases hgo : x < n ∧ x < 12
          · obtain ⟨hxn2, hx2⟩ := hgo
            have x1 : (x : Int) < (n : Int) := Int.ofNat_lt.2 hxn2
            have x2 : (x : Int) < 12 := by omega
            obtain ⟨⟨xa, xc, la⟩, ⟨aa, ac, la2⟩, ⟨sb, so, esa, hcS⟩, ⟨ob, oo, eoa, hcO⟩, rX, rA, e3, hla, eX, eP⟩ := hGd.out wl HBl.out x hxn2
            have e3' : la2 = la := e3
            subst e3'
            have hla' : la2.length ≤ 1048576 := hla
            have hcO' : Hid (wl.cell? ⟨ob, oo + x, none⟩ = some (.slice aa la2.length ac)) := hcO
            have hRA : Hid (Rd wl aa ac la2) := rA
            have hK1 : Hid (∀ W, Below wl.heap.size wl W → Lk W [(aa, ac, la2)]) := by
              intro W hW
              refine ⟨fun z hz => ?_, ?_⟩
              · simp only [List.mem_cons, List.not_mem_nil, or_false] at hz
                subst hz
                exact rA.below hW
              · simp only [lsts, tot, List.map_cons, List.map_nil, List.sum_cons, List.sum_nil, List.length_cons, List.length_nil]
                omega
            subst esa eoa
            obtain ⟨XL, hXL⟩ : ∃ XL, setOf la2 = XL := ⟨_, rfl⟩
            have hXn : Hid (XL.length ≤ 1048576) := by unfold Hid; rw [← hXL]; have := PgMath.setOf_len la2; omega
            have hxx : Hid (x + 1 ≤ 12 ∧ x + 1 ≤ n) := ⟨hx2, hxn2⟩
            have hS3 : Calls Try.prog 20 #[.slice xa la2.length xc] wl fun e w' => RO wl XL e w' := by have := sortO wl xa la2 xc rX (by omega); rw [hXL] at this; exact this
            clear eX eP e3 hla hla' hx12 hxn hxn2 hx2 hGd rX rA hKr hbc hcO
            go_wp2_with fail
            refine hS3.mono ?_
            rintro e w3 ⟨wa, wc, rfl, hOw, hb3⟩
            have hW3 : Hid (Rd w3 wa wc XL) := RO.rd hOw (by have := hXn.out; omega)
            have hcO3 := kept hb3 hcO'.out
            have hS4 : Calls Try.prog 21 #[.slice aa la2.length ac] w3 fun e w' => RO w3 XL e w' := by have := ofO w3 aa la2 ac (hRA.out.below hb3); rw [hXL] at this; exact this
            have hb3' : Hid (Below wl.heap.size wl w3) := hb3
            clear hS3 hcS hOw hb3
            go_wp2_with fail
            refine hS4.mono ?_
            rintro e w4 ⟨a0, c0, rfl, hO4, hb4⟩
            have hSm4 := same_yes XL XL a0 wa c0 wc w4 (RO.rd hO4 (by have := hXn.out; omega)) (hW3.out.below hb4) rfl
            have hb4' : Hid (Below w3.heap.size w3 w4) := hb4
            clear hS4 hO4 hb4
            go_wp2_with fail
            refine hSm4.mono ?_
            rintro e w5 ⟨rfl, hb5⟩
            have hb5' : Hid (Below w3.heap.size w3 w5) := hb4'.out.trans (hb5.mono hb4'.out.size)
            have hl5 : Hid (Below wl.heap.size wl w5) := hb3'.out.trans (hb5'.out.mono hb3'.out.size)
            have hcO5 := kept hl5.out hcO'.out
            have hS6 : Calls Try.prog 22 #[.slice (some ⟨w5.heap.size, 0, none⟩) 1 1] (w5.alloc (.cells #[.slice aa la2.length ac] 35)) fun e w' => RO w5 XL e w' := by
              have := unionO w5 [(aa, ac, la2)] (hK1.out w5 hl5.out)
              rw [show aL (lsts [(aa, ac, la2)]) 1 = XL from (aL_self la2).trans hXL] at this
              exact this
            clear hSm4 hb5 hcO3 hb4'
            go_wp2_with fail
            refine hS6.mono ?_
            rintro e w6 ⟨a1, c1, rfl, hO6, hb6⟩
            have hb6' : Hid (Below w3.heap.size w3 w6) := hb5'.out.trans (hb6.mono hb5'.out.size)
            have hSm6 := same_yes XL XL a1 wa c1 wc w6 (RO.rd hO6 (by have := hXn.out; omega)) (hW3.out.below hb6'.out) rfl
            clear hS6 hO6 hb6
            go_wp2_with fail
            refine hSm6.mono ?_
            rintro e w7 ⟨rfl, hb7⟩
            have hb7' : Hid (Below w3.heap.size w3 w7) := hb6'.out.trans (hb7.mono hb6'.out.size)
            have hl7 : Hid (Below wl.heap.size wl w7) := hb3'.out.trans (hb7'.out.mono hb3'.out.size)
            have hcO7 := kept hl7.out hcO'.out
            have hS8 : Calls Try.prog 23 #[.slice (some ⟨w7.heap.size, 0, none⟩) 1 1] (w7.alloc (.cells #[.slice aa la2.length ac] 35)) fun e w' => RO w7 XL e w' := by
              have := meetO w7 (aa, ac, la2) [] (hK1.out w7 hl7.out)
              rw [show aL (lsts [(aa, ac, la2)]) (([(aa, ac, la2)] : List Hd).length : Nat) = XL from (aL_self la2).trans hXL] at this
              exact this
            clear hSm6 hb7 hcO5 hb6' hb5' hl5
            go_wp2_with fail
            refine hS8.mono ?_
            rintro e w8 ⟨a2, c2, rfl, hO8, hb8⟩
            have hb8' : Hid (Below w3.heap.size w3 w8) := hb7'.out.trans (hb8.mono hb7'.out.size)
            have hSm8 := same_yes XL XL a2 wa c2 wc w8 (RO.rd hO8 (by have := hXn.out; omega)) (hW3.out.below hb8'.out) rfl
            clear hS8 hO8 hb8
            go_wp2_with fail
            refine hSm8.mono ?_
            rintro e w9 ⟨rfl, hb9⟩
            have hl9 : Hid (Below wo.heap.size wo w9) := HBx.out.trans ((hb3'.out.trans ((hb8'.out.trans (hb9.mono hb8'.out.size)).mono hb3'.out.size)).mono HBx.out.size)
            clear hSm8 hb9 hcO7 hb8' hl7 hb7' hb3' hW3 hRA hK1 hcO' HBx HBl
            go_wp2_with fail
            refine ⟨⟨x + 1, hxx.out.1, hxx.out.2, by simp, hl9⟩, ?_⟩
            have := hxx.out.1
            simp [intOf]
            omega
          · have hcs : (¬ (x : Int) < (n : Int)) ∨ ((x : Int) < (n : Int) ∧ ¬ (x : Int) < 12) := by omega
            have hwlo : Hid (∀ {a : Addr} {v : Value}, wo.cell? a = some v → wl.cell? a = some v) := fun h => kept HBx.out h
            have hKl : Hid (KB wl w2.heap.size (.slice ba0 (kb bs).length bc0) bs) := hKr.out.below HBx.out
            have hbcl : Hid (∀ i (hi : i < (kb bs).length), ∃ b, ba0 = some ⟨b, 0, none⟩ ∧ wl.cell? ⟨b, i, none⟩ = some (kb bs)[i]) := fun i hi => by
              obtain ⟨b, e, h⟩ := hbc.out i hi
              exact ⟨b, e, kept HBx.out h⟩
            clear hgo hx12 hxn hKr hbc hwlo HBx HB' hGd
            rcases hcs with x1 | ⟨x1, x2⟩
            all_goals
              go_wp2_with fail
              go_loopw [20] (fun xv w' => ∃ x : Nat, x ≤ (kb bs).length ∧ xv = .int .i64 (x : Int) ∧ Hid (Below wl.heap.size wl w')) (fun xv _ => (kb bs).length - (intOf xv).toNat)
              case atStart => exact ⟨0, Nat.zero_le _, rfl, Below.refl _ _⟩
              case round =>
                obtain ⟨y, hy, rfl, HBy⟩ := hrel
                have y0 : (0 : Int) ≤ (y : Int) := Int.natCast_nonneg _
                have h240 : (kb bs).length ≤ 240 := by have := hsm.out; omega
                by_cases hlt : y < (kb bs).length
                · obtain ⟨bb, rfl, cb⟩ := hbcl.out y hlt
                  have hyb : y < bs.length := by have := hsm.out.1; omega
                  obtain ⟨⟨la, lc, hle, hlr⟩, hq9, hn8⟩ := (hKl.out.all bs[y] (List.getElem_mem hyb)).1
                  clear hq9
                  have hmk := hKl.out.mrk y hyb
                  have ekb : (kb bs)[y] = bs[y].1 := by simp [kb]
                  rw [ekb, hle] at cb
                  obtain ⟨nn, hnn⟩ : ∃ nn, bs[y].2.2 = nn := ⟨_, rfl⟩
                  obtain ⟨m, hm⟩ : ∃ m, bs[y].2.1 = m := ⟨_, rfl⟩
                  rw [hnn] at cb hlr hn8
                  rw [hm] at hlr hmk
                  have hcell5 : Hid (∀ j, j < nn → ∃ b off, la = some ⟨b, off, none⟩ ∧ wl.cell? ⟨b, off + j, none⟩ = some (.int .i64 m)) := fun j hj => by
                    obtain ⟨b, off, e, h⟩ := hlr j (by rw [List.length_replicate]; exact hj)
                    rw [List.getElem_replicate] at h
                    exact ⟨b, off, e, h⟩
                  obtain ⟨t, ht⟩ : ∃ t, y / 2 = t := ⟨_, rfl⟩
                  have q1 : Int.tdiv (y : Int) 2 = (t : Int) := by rw [Int.tdiv_eq_ediv_of_nonneg y0, ← ht]; omega
                  have t0 : (0 : Int) ≤ (t : Int) := Int.natCast_nonneg _
                  have t1 : (t : Int) ≤ 240 := by omega
                  have hmt : (t : Int) + 1000000 = m := by rw [hmk, ht]; rfl
                  have hb240 : ((kb bs).length : Int) ≤ 240 := by omega
                  have y1 : (y : Int) < ((kb bs).length : Int) := Int.ofNat_lt.2 hlt
                  have hcb : Hid (wl.cell? ⟨bb, y, none⟩ = some (.slice la nn lc)) := cb
                  have hyy : Hid (y + 1 ≤ (kb bs).length) := hlt
                  have hn9 : Hid (nn ≤ 8388608) := hn8
                  clear hlr hle hn8 ekb hnn hm cb hbcl hKl hy hyb hlt h240 hmk ht
                  go_wp2_with fail
                  go_loopw [21] (fun jv w' => ∃ j : Nat, j ≤ nn ∧ jv = .int .i64 (j : Int) ∧ Hid (Below wl.heap.size wl w')) (fun jv _ => nn - (intOf jv).toNat)
                  case atStart => exact ⟨0, Nat.zero_le _, rfl, HBy⟩
                  case round =>
                    obtain ⟨j, hj, rfl, HBj⟩ := hrel
                    have hn8 := hn9.out
                    have c1 := kept HBj.out hcb.out
                    have j0 : (0 : Int) ≤ (j : Int) := Int.natCast_nonneg _
                    by_cases hjl : j < nn
                    · obtain ⟨lb, loff, rfl, c3⟩ := hcell5.out j hjl
                      replace c3 := kept HBj.out c3
                      have j1 : (j : Int) < (nn : Int) := Int.ofNat_lt.2 hjl
                      have hjj : Hid (j + 1 ≤ nn) := hjl
                      clear hjl hj
                      go_wp2_with fail
                      refine ⟨⟨j + 1, hjj.out, by simp, HBj⟩, ?_⟩
                      have := hjj.out
                      simp [intOf]
                      omega
                    · have j1 : ¬ (j : Int) < (nn : Int) := by omega
                      clear hjl hj
                      go_wp2_with fail
                      refine ⟨⟨y + 1, hyy.out, by simp, HBj⟩, ?_⟩
                      have := hyy.out
                      simp [intOf]
                      omega
                · have y1 : ¬ (y : Int) < ((kb bs).length : Int) := by omega
                  have HBe : Hid (Below w2.heap.size w2 wr) := HBl.out.trans (HBy.out.mono HBl.out.size)
                  have hUn : Calls Try.prog 30 #[.slice oa n oc, .slice ha n hc2, .slice sa n sc] wr fun e w' => e = .returned (.bool true) ∧ Below wr.heap.size wr w' := by
                    have := unchanged_any oa ha sa oc hc2 sc Os Ss wr (hU2.out.1.below HBe.out)
                    rw [hU2.out.2.2, hn'.out.1] at this
                    exact this
                  clear hbcl hKl hlt hy h240
                  go_wp2_with fail
                  refine hUn.mono ?_
                  rintro e wz ⟨rfl, hbz⟩
                  have hfin : Hid (Below w.heap.size w wz) := hU2.out.2.1.trans ((HBe.out.trans (hbz.mono HBe.out.size)).mono hU2.out.2.1.size)
                  clear hUn hbz
                  go_wp2_with fail
                  go_ret
                  exact ⟨rfl, hfin.out⟩
end Pk
end Go.Proofs.Ytdbhcemmaahemaa
