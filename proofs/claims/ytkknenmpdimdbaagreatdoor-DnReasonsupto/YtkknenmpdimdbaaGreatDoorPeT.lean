import Derived.Test.YtkknenmpdimdbaaGreatDoorFW49
import Derived.Test.YtkknenmpdimdbaaGreatDoorFW19
namespace Go.Proofs.YtkknenmpdimdbaaGreatDoor
namespace Pa
open Go.RowKit
open TextMath (fold lo normal check wo unhex)
open Ke
open Du (PX DRow PRow GRow GOwn KDp append_gen sd sd_len pV xV pV_len xV_len copyDN_any CpQ)
set_option linter.unusedVariables false
set_option linter.unusedSimpArgs false
set_option maxRecDepth 100000
theorem first_row {w : World} {pa : Option Addr} {pc : Nat} {ps : List PR} (hpr : PRow w pa ps) (hml : ps.length ≤ 1073741824) :
  ∃ W1 va vc w1, w.alloc (.cells #[] 64) = W1 ∧ Below w.heap.size w W1 ∧
  (Builtin.append_ #[57, 57] 57 #[.slice (some ⟨w.heap.size, 0, none⟩) 0 0, .slice pa ps.length pc]).run Tryz.prog W1 = .ok (.slice va ps.length vc) w1 ∧ PRow w1 va ps ∧ Below w.heap.size w w1 := by
 obtain ⟨W1, hW1⟩ : ∃ W1, w.alloc (.cells #[] 64) = W1 := ⟨_, rfl⟩
 have b01 : Below w.heap.size w W1 := by rw [← hW1]; exact (Below.refl _ _).alloc (Nat.le_refl _) _
 have oE : GOwn 64 2 pV W1 w.heap.size (.slice (some ⟨w.heap.size, 0, none⟩) 0 0) ([] : List PR) := by rw [← hW1]; exact Du.own_empty w
 obtain ⟨v1, w1, e1, o1, g1, b1⟩ := append_gen KDp W1 w.heap.size (.slice (some ⟨w.heap.size, 0, none⟩) 0 0) [] ps pa ps.length pc oE (hpr.below pV_len b01) rfl b01.size (by simp; omega)
 rw [List.nil_append] at o1
 obtain ⟨va, vc, rfl, _, _, hr⟩ := o1.row pV_len
 exact ⟨W1, va, vc, w1, hW1, b01, e1, hr, b01.trans b1⟩
abbrev Up (w W : World) : Prop := Below w.heap.size w W
set_option maxHeartbeats 16000000 in
theorem dnReasons_walk (ad : Nat → Addr) (t : List UInt8) (sa : Option Addr) (sc n : Nat) (L : List PX) (w : World) (ht : t.length ≤ 1073741824) (hS : Sen ad w) (hE : ErrT w) (hG : RowTab w) (hn : L.length = n) (hr : DRow w sa L) (hz : Sz5 L) :
  Calls Tryz.prog 6 #[.string (S t), .slice sa n sc] w fun e w' => e = .returned (.bool true) ∧ Below w.heap.size w w' := by
 have hT : ∀ W, Up w W → Sen ad W ∧ ErrT W ∧ RowTab W := fun W hb => ⟨hS.below hb, errT_below hE hb, rowTab_below hG hb⟩
 obtain ⟨R, hR⟩ := prs_total t
 obtain ⟨R2, hR2⟩ := prs_total (t ++ [44])
 obtain ⟨v1, hv1⟩ := vPs_ex t.length R
 obtain ⟨v2, hv2⟩ := vPr_ex (sd L)
 obtain ⟨v3, hv3⟩ := vKo_ex (t ++ [44]).length R2
 obtain ⟨v4, hv4⟩ := vKy_ex (sd L)
 obtain ⟨ps, hps⟩ : ∃ ps : List PR, ps = ((sd L)[0]?).getD [] := ⟨_, rfl⟩
 obtain ⟨v5, hv5⟩ := vRd_ex ps
 obtain ⟨x1, f1, a1, hx1, hf1, ha1, hr1, hq1⟩ := vd_mk ad v1 (vPs_gd hR hv1)
 obtain ⟨x2, f2, a2, hx2, hf2, ha2, hr2, hq2⟩ := vd_mk ad v2 (vPr_gd hv2)
 obtain ⟨x3, f3, a3, hx3, hf3, ha3, hr3, hq3⟩ := vd_mk ad v3 (vKo_gd hR2 hv3)
 obtain ⟨x4, f4, a4, hx4, hf4, ha4, hr4, hq4⟩ := vd_mk ad v4 (vKy_gd hv4)
 obtain ⟨x5, f5, a5, hx5, hf5, ha5, hr5, hq5⟩ := vd_mk ad v5 (vRd_gd hv5)
 have hss : S (t ++ [44]) = S t ++ { data := #[44] } := (S_eq _ _ (by simp only [app_l, S_l])).symm
 have hsz : (S t).size = t.length := S_size t
 have hpz : (∀ p ∈ ps, p.1.length + p.2.length ≤ 4194300) ∧ ps.length ≤ 1073741824 := by
  rw [hps]
  cases hL : (sd L)[0]? with
  | none => exact ⟨fun p hp => (by cases hp), by decide⟩
  | some r =>
   have hm := List.mem_of_getElem? hL
   obtain ⟨r', h1, h2⟩ := List.mem_map.1 hm
   subst h2
   exact ⟨hz.1 r' h1, hz.2.1 r' h1⟩
 have cP1 : ∀ W, Up w W → Hid (Calls Tryz.prog 10 #[.string (S t)] W fun e w' => (∃ a l c, e = .returned (.tuple #[.slice a l c, x1])) ∧ Below W.heap.size W w') := fun W hb => by
  rw [← hx1]
  exact (parse_all (evP ad) t W R (by omega) (evP_ok (hT W hb).1) hR).mono fun e w' h => psQ_v hv1 h
 have cP2 : ∀ W, Up w W → Hid (Calls Tryz.prog 16 #[.string (S t)] W fun e w' => (∃ a l c, e = .returned (.tuple #[.slice a l c, .int .i64 f1, .int .i64 a1])) ∧ Below W.heap.size W w') := fun W hb => by
  rw [← hf1, ← ha1]
  exact (rparse_any t W R (by omega) (hT W hb).2.2 hR).mono fun e w' h => prQ_v hv1 h
 have cC : ∀ W, Up w W → Hid (Calls Tryz.prog 14 #[.slice sa n sc] W fun e w' => (∃ a c, e = .returned (.slice a n c) ∧ (∀ X, Below w'.heap.size w' X → Hid (Calls Tryz.prog 20 #[.slice a n c] X fun e w'' => (∃ s, e = .returned (.tuple #[.string s, x2])) ∧ Below X.heap.size X w'')) ∧ (∀ X, Below w'.heap.size w' X → Hid (Calls Tryz.prog 13 #[.slice a n c] X fun e w'' => (∃ a l c, e = .returned (.tuple #[.slice a l c, x4])) ∧ Below X.heap.size X w''))) ∧ Below W.heap.size W w') := fun W hb => by
  refine (copyDN_any sa sc L n W hn (hr.below hb) (fun r hr => by have := hz.2.1 r hr; omega) (by have := hz.2.2.1; omega)).mono ?_
  rintro e w' ⟨a, c, Os, rfl, hQ⟩
  have hbw : Below W.heap.size W w' := by obtain ⟨_, _, _, _, _, _, h7, _⟩ := id hQ; exact h7
  have hsd : sd Os = sd L := hQ.sd hn
  have hmem : ∀ r ∈ Os, ∃ r' ∈ L, r'.2.2 = r.2.2 := fun r hr => by
   have h1 : r.2.2 ∈ sd Os := List.mem_map.2 ⟨r, hr, rfl⟩
   rw [hsd] at h1
   obtain ⟨r', h2, h3⟩ := List.mem_map.1 h1
   exact ⟨r', h2, h3⟩
  have hOl : Os.length = n := by rw [← sd_len Os, hsd, sd_len]; exact hn
  have z1 : ∀ r ∈ Os, ∀ p ∈ r.2.2, p.1.length + p.2.length ≤ 1073741824 := fun r hr p hp => by obtain ⟨r', h2, h3⟩ := hmem r hr; rw [← h3] at hp; have := hz.1 r' h2 p hp; omega
  have z2 : ∀ r ∈ Os, r.2.2.length ≤ 1073741824 := fun r hr => by obtain ⟨r', h2, h3⟩ := hmem r hr; rw [← h3]; exact hz.2.1 r' h2
  have hU : ∀ X, Below w'.heap.size w' X → Up w X := fun X hX => (hb.trans (hbw.mono hb.size)).trans (hX.mono (hb.trans (hbw.mono hb.size)).size)
  refine ⟨⟨a, c, rfl, fun X hX => ?_, fun X hX => ?_⟩, hbw⟩
  ·have h := print_any (evP ad) a c n Os X (evF_of (hT X (hU X hX)).1) (((hT X (hU X hX)).1.1 (50, 0) (by decide)).1) hOl (hQ.below hX).grow.1 z1 z2 (by have := hz.2.2.1; omega) (by rw [hsd]; exact hz.2.2.2)
   rw [hsd] at h
   rw [← hx2]
   exact h.mono fun e w' h => prF_v hv2 h
  ·have h := key_F (evP ad) a c n Os X (evF_of (hT X (hU X hX)).1) hOl (hQ.below hX).grow.1 z1 z2 (by have := hz.2.2.1; omega)
   rw [hsd] at h
   rw [← hx4]
   exact h.mono fun e w' h => keyF_v hv4 h
 have cPr : ∀ W, Up w W → Hid (Calls Tryz.prog 21 #[.slice sa n sc] W fun e w' => (∃ s, e = .returned (.tuple #[.string s, .int .i64 f2, .int .i64 a2])) ∧ Below W.heap.size W w') := fun W hb => by
  rw [← hf2, ← ha2]
  exact (rprint_any sa sc n L W (hT W hb).2.2 hn (hr.below hb) hz.1 hz.2.1 (by have := hz.2.2.1; omega) hz.2.2.2).mono fun e w' h => rpF_v hv2 h
 have cK1 : ∀ W, Up w W → Hid (Calls Tryz.prog 12 #[.string (S t ++ { data := #[44] })] W fun e w' => (∃ a l c, e = .returned (.tuple #[.slice a l c, x3])) ∧ Below W.heap.size W w') := fun W hb => by
  rw [← hx3, ← hss]
  exact (keyOf_F ad (t ++ [44]) W R2 (by simp; omega) (hT W hb).1 hR2 (smN_of (t ++ [44]) W R2 (by simp; omega) (hT W hb).2.2 hR2)).mono fun e w' h => koF_v hv3 h
 have cK2 : ∀ W, Up w W → Hid (Calls Tryz.prog 18 #[.string (S t ++ { data := #[44] })] W fun e w' => (∃ a l c, e = .returned (.tuple #[.slice a l c, .int .i64 f3, .int .i64 a3])) ∧ Below W.heap.size W w') := fun W hb => by
  rw [← hf3, ← ha3, ← hss]
  exact (rkeyOf_any (t ++ [44]) W R2 (by simp; omega) (hT W hb).2.2 hR2).mono fun e w' h => roF_v hv3 h
 have cKr : ∀ W, Up w W → Hid (Calls Tryz.prog 22 #[.slice sa n sc] W fun e w' => (∃ a l c, e = .returned (.tuple #[.slice a l c, .int .i64 f4, .int .i64 a4])) ∧ Below W.heap.size W w') := fun W hb => by
  rw [← hf4, ← ha4]
  exact (rkey_any sa sc n L W (hT W hb).2.2 hn (hr.below hb) hz.1 hz.2.1 (by have := hz.2.2.1; omega)).mono fun e w' h => rkF_v hv4 h
 have cPa : ∀ (va : Option Addr) (vc m : Nat) (W0 : World), ps.length = m → PRow W0 va ps → ∀ W, Up w W → Below W0.heap.size W0 W → Hid (Calls Tryz.prog 23 #[.slice va m vc] W fun e w' => (∃ s, e = .returned (.tuple #[.string s, x5])) ∧ Below W.heap.size W w') := fun va vc m W0 hm hp W hb hb0 => by
  rw [← hx5]
  exact (part_F (evP ad) va vc m ps W (evF_of (hT W hb).1) hm (hp.below pV_len hb0) (fun p hp => by have := hpz.1 p hp; omega) (by rw [← hm]; exact hpz.2)).mono fun e w' h => ktF_v hv5 h
 have cPb : ∀ (va : Option Addr) (vc m : Nat) (W0 : World), ps.length = m → PRow W0 va ps → ∀ W, Up w W → Below W0.heap.size W0 W → Hid (Calls Tryz.prog 24 #[.slice va m vc] W fun e w' => (∃ s, e = .returned (.tuple #[.string s, .int .i64 f5, .int .i64 a5])) ∧ Below W.heap.size W w') := fun va vc m W0 hm hp W hb hb0 => by
  rw [← hf5, ← ha5]
  exact (rpart_any va vc m ps W (hT W hb).2.2 hm (hp.below pV_len hb0) hpz.1 (by have := hpz.2; omega)).mono fun e w' h => rtF_v hv5 h
 have hdn : (L = [] ∧ n = 0 ∧ ps = []) ∨ (∃ r l, L = r :: l ∧ ps = r.2.2 ∧ 0 < n) := by
  cases L with
  | nil => exact Or.inl ⟨rfl, hn.symm, hps⟩
  | cons r l => exact Or.inr ⟨r, l, rfl, hps, by rw [← hn]; simp⟩
 have hcap : ∀ W, Up w W → ∀ r l, L = r :: l → ∃ b off, sa = some ⟨b, off, none⟩ ∧ W.cell? ⟨b, off, none⟩ = some (.slice r.1 r.2.2.length r.2.1) ∧ PRow W r.1 r.2.2 := fun W hb r l hL => by
  obtain ⟨b, off, e, h⟩ := Du.drow_at (hr.below hb) 0 (by rw [hL]; simp)
  have e0 : L[0]'(by rw [hL]; simp) = r := by simp [hL]
  rw [e0] at h
  exact ⟨b, off, e, h, ((hr.below hb).2 r (by rw [hL]; simp)).1⟩
 have ss1 : (f1 == f1) = true := by rw [beq_iff_eq]
 have ss2 : (a1 == a1) = true := by rw [beq_iff_eq]
 have hT' : Hid (∀ W, Up w W → Sen ad W ∧ ErrT W ∧ RowTab W) := hT
 have hdn' : Hid ((L = [] ∧ n = 0 ∧ ps = []) ∨ (∃ r l, L = r :: l ∧ ps = r.2.2 ∧ 0 < n)) := hdn
 have hcap' := hcap
 have stn : (S t).size ≤ 1073741824 := by omega
 have hov : ¬ 9223372036854775807 < (S t).size + 1 := by omega
 have nb : (n : Int) ≤ 1073741824 := by have := hz.2.2.1; omega
 have n0 : (0 : Int) ≤ (n : Int) := Int.natCast_nonneg _
 have hpl : Hid (ps.length ≤ 1073741824) := hpz.2
 clear hss hsz hS hE hG hR hR2 hv1 hv2 hv3 hv4 hv5 hps hx1 hx2 hx3 hx4 hx5 hf1 hf2 hf3 hf4 hf5 ha1 ha2 ha3 ha4 ha5 hq2 hq3 hq4 hq5 hz hpz hr hn ht hT hdn hcap
 generalize S t = st at *
 go_enter Tryz.func6, Tryz.ntmps6
 have hc1 := cP1 w (Below.refl w.heap.size w)
 go_wp2_with fail
 refine hc1.out.mono ?_
 rintro e w1 ⟨⟨y1, y2, y3, rfl⟩, hb⟩
 have hu1 : Hid (Up w w1) := (Below.refl w.heap.size w).trans (hb.mono (Below.refl w.heap.size w).size)
 clear cP1
 clear hc1 hb
 have hc2 := cP2 w1 hu1.out
 go_wp2_with fail
 refine hc2.out.mono ?_
 rintro e w2 ⟨⟨z1, z2, z3, rfl⟩, hb⟩
 have hu2 : Hid (Up w w2) := hu1.out.trans (hb.mono hu1.out.size)
 clear cP2
 clear hc2 hb
 have hc3 := hr1 w2 (hT'.out w2 hu2.out).1
 go_wp2_with fail
 refine hc3.out.mono ?_
 rintro e w3 ⟨rfl, hb⟩
 have hu3 : Hid (Up w w3) := hu2.out.trans (hb.mono hu2.out.size)
 clear hc3 hb
 have hc4 := cC w3 hu3.out
 go_wp2_with fail
 refine hc4.out.mono ?_
 rintro e w4 ⟨⟨ca, cc, rfl, hpr, hno⟩, hb⟩
 have hu4 : Hid (Up w w4) := hu3.out.trans (hb.mono hu3.out.size)
 have hpr' := hpr w4 (Below.refl _ _)
 clear hpr hno
 clear hc4 hb
 have hc5 := hpr'
 go_wp2_with fail
 refine hc5.out.mono ?_
 rintro e w5 ⟨⟨s1, rfl⟩, hb⟩
 have hu5 : Hid (Up w w5) := hu4.out.trans (hb.mono hu4.out.size)
 clear hpr'
 clear hc5 hb
 have hc6 := cPr w5 hu5.out
 go_wp2_with fail
 refine hc6.out.mono ?_
 rintro e w6 ⟨⟨s2, rfl⟩, hb⟩
 have hu6 : Hid (Up w w6) := hu5.out.trans (hb.mono hu5.out.size)
 clear cPr
 clear hc6 hb
 have hc7 := hr2 w6 (hT'.out w6 hu6.out).1
 go_wp2_with fail
 refine hc7.out.mono ?_
 rintro e w7 ⟨rfl, hb⟩
 have hu7 : Hid (Up w w7) := hu6.out.trans (hb.mono hu6.out.size)
 clear hc7 hb
 have hc8 := cK1 w7 hu7.out
 go_wp2_with fail
 refine hc8.out.mono ?_
 rintro e w8 ⟨⟨k1, k2, k3, rfl⟩, hb⟩
 have hu8 : Hid (Up w w8) := hu7.out.trans (hb.mono hu7.out.size)
 clear cK1
 clear hc8 hb
 have hc9 := cK2 w8 hu8.out
 go_wp2_with fail
 refine hc9.out.mono ?_
 rintro e w9 ⟨⟨j1, j2, j3, rfl⟩, hb⟩
 have hu9 : Hid (Up w w9) := hu8.out.trans (hb.mono hu8.out.size)
 clear cK2
 clear hc9 hb
 have hc10 := cC w9 hu9.out
 go_wp2_with fail
 refine hc10.out.mono ?_
 rintro e w10 ⟨⟨cb, cd, rfl, hno, hkr⟩, hb⟩
 have hu10 : Hid (Up w w10) := hu9.out.trans (hb.mono hu9.out.size)
 have hkr' := hkr w10 (Below.refl _ _)
 clear hkr hno cC
 clear hc10 hb
 have hc11 := hkr'
 go_wp2_with fail
 refine hc11.out.mono ?_
 rintro e w11 ⟨⟨m1, m2, m3, rfl⟩, hb⟩
 have hu11 : Hid (Up w w11) := hu10.out.trans (hb.mono hu10.out.size)
 clear hkr'
 clear hc11 hb
 have hc12 := cKr w11 hu11.out
 go_wp2_with fail
 refine hc12.out.mono ?_
 rintro e w12 ⟨⟨o1, o2, o3, rfl⟩, hb⟩
 have hu12 : Hid (Up w w12) := hu11.out.trans (hb.mono hu11.out.size)
 clear cKr
 clear hc12 hb
 have hc13 := hr3 w12 (hT'.out w12 hu12.out).1
 go_wp2_with fail
 refine hc13.out.mono ?_
 rintro e w13 ⟨rfl, hb⟩
 have hu13 : Hid (Up w w13) := hu12.out.trans (hb.mono hu12.out.size)
 clear hc13 hb
 have hc14 := hr4 w13 (hT'.out w13 hu13.out).1
 go_wp2_with fail
 refine hc14.out.mono ?_
 rintro e w14 ⟨rfl, hb⟩
 have hu14 : Hid (Up w w14) := hu13.out.trans (hb.mono hu13.out.size)
 clear hr4
 clear hc14 hb
 rcases hdn'.out with ⟨hL, hn0, hp0⟩ | ⟨r, l, hL, hp, hnp⟩
 ·subst hn0
  obtain ⟨w14a, hW1⟩ : ∃ W1, w14.alloc (.cells #[] 64) = W1 := ⟨_, rfl⟩
  have hba : Below w14.heap.size w14 w14a := by rw [← hW1]; exact (Below.refl _ _).alloc (Nat.le_refl _) _
  have hu14a : Hid (Up w w14a) := hu14.out.trans (hba.mono hu14.out.size)
  have hPR : PRow w14a (some ⟨w14.heap.size, 0, none⟩) ps := by rw [hp0]; exact GRow.nil _ _ _ _
  have hmm : ps.length = 0 := by rw [hp0]; rfl
  clear hba hL hp0 hcap' nb n0
  have hc15 := cPa (some ⟨w14.heap.size, 0, none⟩) 0 0 w14a hmm hPR w14a hu14a.out (Below.refl _ _)
  go_wp2_with fail
  refine hc15.out.mono ?_
  rintro e w15 ⟨⟨s5, rfl⟩, hb⟩
  have hu15 : Hid (Up w w15) := hu14a.out.trans (hb.mono hu14a.out.size)
  clear cPa
  have hb15 : Below w14a.heap.size w14a w15 := hb
  clear hc15 hb
  have hc16 := cPb (some ⟨w14.heap.size, 0, none⟩) 0 0 w14a hmm hPR w15 hu15.out hb15
  go_wp2_with fail
  refine hc16.out.mono ?_
  rintro e w16 ⟨⟨s6, rfl⟩, hb⟩
  have hu16 : Hid (Up w w16) := hu15.out.trans (hb.mono hu15.out.size)
  clear cPb hb15 hPR
  clear hc16 hb
  have hc17 := hq1 w16 (hT'.out w16 hu16.out).1 (hT'.out w16 hu16.out).2.1
  go_wp2_with fail
  refine hc17.out.mono ?_
  rintro e w17 ⟨rfl, hb⟩
  have hu17 : Hid (Up w w17) := hu16.out.trans (hb.mono hu16.out.size)
  clear hq1
  clear hc17 hb
  have hc18 := hr1 w17 (hT'.out w17 hu17.out).1
  go_wp2_with fail
  refine hc18.out.mono ?_
  rintro e w18 ⟨rfl, hb⟩
  have hu18 : Hid (Up w w18) := hu17.out.trans (hb.mono hu17.out.size)
  clear hc18 hb
  have hc19 := hr2 w18 (hT'.out w18 hu18.out).1
  go_wp2_with fail
  refine hc19.out.mono ?_
  rintro e w19 ⟨rfl, hb⟩
  have hu19 : Hid (Up w w19) := hu18.out.trans (hb.mono hu18.out.size)
  clear hc19 hb
  have hc20 := hr3 w19 (hT'.out w19 hu19.out).1
  go_wp2_with fail
  refine hc20.out.mono ?_
  rintro e w20 ⟨rfl, hb⟩
  have hu20 : Hid (Up w w20) := hu19.out.trans (hb.mono hu19.out.size)
  clear hc20 hb
  have hc21 := hr5 w20 (hT'.out w20 hu20.out).1
  go_wp2_with fail
  refine hc21.out.mono ?_
  rintro e w21 ⟨rfl, hb⟩
  have hu21 : Hid (Up w w21) := hu20.out.trans (hb.mono hu20.out.size)
  clear hc21 hb
  have hfin : Hid (Below w.heap.size w w21) := hu21.out
  go_wp2_with fail
  go_ret
  exact ⟨rfl, hfin.out⟩
 ·obtain ⟨b, off, rfl, hcl, hPr⟩ := hcap' w14 hu14.out r l hL
  have hn1 : (0 : Int) < (n : Int) := Int.ofNat_lt.2 hnp
  obtain ⟨m, hmm⟩ : ∃ m, ps.length = m := ⟨_, rfl⟩
  obtain ⟨W1, va, vc, w14a, hW1, hb1, e1, hPR, hba⟩ := first_row (pc := r.2.1) hPr (by rw [← hp]; exact hpl.out)
  have hcl1 : W1.cell? ⟨b, off, none⟩ = some (.slice r.1 r.2.2.length r.2.1) := (hb1.cell (World.block_lt_of_cell? _ _ hcl)).trans hcl
  rw [← hp] at hPR e1 hcl1 hcl
  rw [hmm] at e1 hcl1 hcl
  obtain ⟨ra, hra⟩ : ∃ ra, r.1 = ra := ⟨_, rfl⟩
  obtain ⟨rc, hrc⟩ : ∃ rc, r.2.1 = rc := ⟨_, rfl⟩
  rw [hra, hrc] at e1 hcl1
  have hu14a : Hid (Up w w14a) := hu14.out.trans (hba.mono hu14.out.size)
  clear hba hL hp hcap' hcl hPr hra hrc hb1
  go_upto_region 15 with (at_builtin; refine Lib.wpList_append_run _ rfl _ _ _ _ rfl _ _ rfl rfl _ _ e1 ?_; clear e1)
  have hc15 := cPa va vc m w14a hmm hPR w14a hu14a.out (Below.refl _ _)
  go_wp2_with fail
  refine hc15.out.mono ?_
  rintro e w15 ⟨⟨s5, rfl⟩, hb⟩
  have hu15 : Hid (Up w w15) := hu14a.out.trans (hb.mono hu14a.out.size)
  clear cPa
  have hb15 : Below w14a.heap.size w14a w15 := hb
  clear hc15 hb
  have hc16 := cPb va vc m w14a hmm hPR w15 hu15.out hb15
  go_wp2_with fail
  refine hc16.out.mono ?_
  rintro e w16 ⟨⟨s6, rfl⟩, hb⟩
  have hu16 : Hid (Up w w16) := hu15.out.trans (hb.mono hu15.out.size)
  clear cPb hb15 hPR
  clear hc16 hb
  have hc17 := hq1 w16 (hT'.out w16 hu16.out).1 (hT'.out w16 hu16.out).2.1
  go_wp2_with fail
  refine hc17.out.mono ?_
  rintro e w17 ⟨rfl, hb⟩
  have hu17 : Hid (Up w w17) := hu16.out.trans (hb.mono hu16.out.size)
  clear hq1
  clear hc17 hb
  have hc18 := hr1 w17 (hT'.out w17 hu17.out).1
  go_wp2_with fail
  refine hc18.out.mono ?_
  rintro e w18 ⟨rfl, hb⟩
  have hu18 : Hid (Up w w18) := hu17.out.trans (hb.mono hu17.out.size)
  clear hc18 hb
  have hc19 := hr2 w18 (hT'.out w18 hu18.out).1
  go_wp2_with fail
  refine hc19.out.mono ?_
  rintro e w19 ⟨rfl, hb⟩
  have hu19 : Hid (Up w w19) := hu18.out.trans (hb.mono hu18.out.size)
  clear hc19 hb
  have hc20 := hr3 w19 (hT'.out w19 hu19.out).1
  go_wp2_with fail
  refine hc20.out.mono ?_
  rintro e w20 ⟨rfl, hb⟩
  have hu20 : Hid (Up w w20) := hu19.out.trans (hb.mono hu19.out.size)
  clear hc20 hb
  have hc21 := hr5 w20 (hT'.out w20 hu20.out).1
  go_wp2_with fail
  refine hc21.out.mono ?_
  rintro e w21 ⟨rfl, hb⟩
  have hu21 : Hid (Up w w21) := hu20.out.trans (hb.mono hu20.out.size)
  clear hc21 hb
  have hfin : Hid (Below w.heap.size w w21) := hu21.out
  go_wp2_with fail
  go_ret
  exact ⟨rfl, hfin.out⟩
end Pa
end Go.Proofs.YtkknenmpdimdbaaGreatDoor
