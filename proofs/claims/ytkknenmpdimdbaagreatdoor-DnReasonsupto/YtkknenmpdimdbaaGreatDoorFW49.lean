import Derived.Test.YtkknenmpdimdbaaGreatDoorKfV
import Derived.Test.YtkknenmpdimdbaaGreatDoorFW25
import Derived.Test.YtkknenmpdimdbaaGreatDoorFW24
import Derived.Test.YtkknenmpdimdbaaGreatDoorFW45
import Derived.Test.YtkknenmpdimdbaaGreatDoorFW47
namespace Go.Proofs.YtkknenmpdimdbaaGreatDoor
namespace Ke
open Go.RowKit
open TextMath (fold lo normal check)
open Du (PRow DRow PX sd sd_len drow_at pV pV_len prow_at)
set_option linter.unusedVariables false
set_option linter.unusedSimpArgs false
set_option maxRecDepth 100000
set_option maxHeartbeats 1000000 in
theorem len_any (B b : Nat) (l : List UInt8) (w : World) (h : IsB B b l w) (hl : l.length ≤ 1099511627776) :
  Calls Tryz.prog 42 #[.pointer (some ⟨b, 0, none⟩)] w fun e w' => e = .returned (.int .i64 (l.length : Int)) ∧ w' = w := by
 obtain ⟨a, c, h1⟩ : ∃ a c, w.cell? ⟨b, 1, none⟩ = some (.slice a l.length c) := by
  have key : ∀ p, Lib.BuilderAt 89 5 B b p (bv l) w → ∃ a c, w.cell? ⟨b, 1, none⟩ = some (.slice a l.length c) := fun p hp => by
   obtain ⟨_, v, h2, h3, _⟩ := hp
   have h3' : Own w B v l := by unfold Own; rw [bv_len] at h3; exact h3
   obtain ⟨a, c, rfl⟩ := own_form h3'
   exact ⟨a, c, by rw [cell_of_row _ _ _ _ _ _ h2]; rfl⟩
  rcases h with h | h
  ·exact key _ h
  ·exact key _ h
 have hl' : (l.length : Int) ≤ 1099511627776 := by omega
 generalize l.length = n at *
 clear h
 go_enter Tryz.func42, Tryz.ntmps42
 go_wp2_with fail
 go_ret
 exact ⟨rfl, rfl⟩
def PrF (ev : Nat → TypeId × Value) (w : World) (D : List (List PR)) (e : Ending) (w' : World) : Prop :=
 Below w.heap.size w w' ∧ ((Az D ∧ (dtx D).length ≤ 4096 ∧ e = .returned (.tuple #[.string (S (dtx D)), .nilIface])) ∨ (Az D ∧ 4096 < (dtx D).length ∧ e = .returned (.tuple #[.string ⟨#[]⟩, refV ev 50 (D.length : Int)])) ∨ (∃ k, ∃ h : k < D.length, Fs D k ∧ e = .returned (.tuple #[.string ⟨#[]⟩, refV ev (cer D[k] (k : Int)) (k : Int)])))
set_option maxHeartbeats 4000000 in
theorem print_any (ev : Nat → TypeId × Value) (sa : Option Addr) (sc n : Nat) (L : List PX) (w : World) (hG : ErrsF ev w) (hG0 : w.cell? ⟨0, 0, none⟩ = some (.iface (ev 50).1 (ev 50).2)) (hn : L.length = n) (hr : DRow w sa L) (hz : ∀ r ∈ L, ∀ p ∈ r.2.2, p.1.length + p.2.length ≤ 1073741824) (hzl : ∀ r ∈ L, r.2.2.length ≤ 1073741824) (hnb : n ≤ 1073741824) (hD : dW (sd L) ≤ 900000000000) :
  Calls Tryz.prog 20 #[.slice sa n sc] w fun e w' => PrF ev w (sd L) e w' := by
 have nb : (n : Int) ≤ 1073741824 := by omega
 have hn' : Hid (L.length = n) := hn
 have hr' : Hid (DRow w sa L) := hr
 have hG' : Hid (ErrsF ev w ∧ w.cell? ⟨0, 0, none⟩ = some (.iface (ev 50).1 (ev 50).2)) := ⟨hG, hG0⟩
 have hz' : Hid ((∀ r ∈ L, ∀ p ∈ r.2.2, p.1.length + p.2.length ≤ 1073741824) ∧ ∀ r ∈ L, r.2.2.length ≤ 1073741824) := ⟨hz, hzl⟩
 have hD' : Hid (dW (sd L) ≤ 900000000000) := hD
 obtain ⟨W0, hW0⟩ : ∃ W0, w.alloc (.cells #[.pointer none, .slice none 0 0] 89) = W0 := ⟨_, rfl⟩
 have hb0 : Hid (Below w.heap.size w W0) := by unfold Hid; rw [← hW0]; exact (Below.refl _ _).alloc (Nat.le_refl _) _
 have hI0 : Hid (Wr w.heap.size w.heap.size W0 W0 [] W0) := by
  refine ⟨?_, Below.refl _ _, Lr.Kt.refl _, hb0.out.size⟩
  have h := Lib.fresh_isBuilder 89 5 w
  rw [hW0] at h
  exact h
 clear hG hG0 hn hr hz hzl hnb hD
 go_enter Tryz.func20, Tryz.ntmps20
 go_wp2_with fail
 go_loopw [11] (fun iv wr => ∃ k : Nat, k ≤ n ∧ iv = .int .i64 (k : Int) ∧ Hid (k ≤ 64 ∧ (∀ j (h : j < L.length), j < k → cer L[j].2.2 (j : Int) = 0) ∧ Wr w.heap.size w.heap.size W0 W0 (dtx ((sd L).take k)) wr)) (fun iv _ => n - (intOf iv).toNat)
 case atStart => exact ⟨0, Nat.zero_le _, rfl, by omega, fun j _ hj => by omega, by rw [List.take_zero]; exact hI0.out⟩
 case round =>
  obtain ⟨k, hk, rfl, hR⟩ := hrel
  clear hI0 hW0
  have k0 : (0 : Int) ≤ (k : Int) := Int.natCast_nonneg _
  have hBw : Hid (Below w.heap.size w wr) := hb0.out.trans hR.out.2.2.2.1
  by_cases hlt : k < n
  ·have k1 : (k : Int) < (n : Int) := Int.ofNat_lt.2 hlt
   have hkL : k < L.length := by rw [hn'.out]; exact hlt
   have hRw := hr'.out.below hBw.out
   obtain ⟨b, off, rfl, c1⟩ := drow_at hRw k hkL
   have hT : Hid (Calls Tryz.prog 39 #[.slice L[k].1 L[k].2.2.length L[k].2.1, .int .i64 (k : Int)] wr fun e w' => CanF ev wr L[k].2.2 (k : Int) L[k].2.2.length e w') := canonical_typesF ev _ _ _ _ _ wr (hG'.out.1.below hBw.out) rfl (hRw.2 _ (List.getElem_mem hkL)).1 (fun p hp => by have := hz'.out.1 _ (List.getElem_mem hkL) p hp; omega) (by have := hz'.out.2 _ (List.getElem_mem hkL); omega)
   have hbad : Hid (cer L[k].2.2 (k : Int) ≠ 0 → ∃ h : k < (sd L).length, Fs (sd L) k ∧ cer (sd L)[k] (k : Int) = cer L[k].2.2 (k : Int)) := fun h => by
    have hk' : k < (sd L).length := by rw [sd_len]; exact hkL
    have e : (sd L)[k] = L[k].2.2 := sdAt L k hkL
    refine ⟨hk', ⟨hk', fun j hj => ?_, by rw [e]; exact h⟩, by rw [e]⟩
    rw [sdAt L j (by omega)]
    exact hR.out.2.1 j (by omega) hj
   have hok : Hid (k < 64 → OkP L[k].2.2 → ∀ j (h : j < L.length), j < k + 1 → cer L[j].2.2 (j : Int) = 0) := fun h64 h j hj hjk => by
    by_cases e : j = k
    ·subst e
     unfold cer
     rw [if_neg (by omega)]
     exact rer_ok h
    ·exact hR.out.2.1 j hj (by omega)
   have hsn : Hid (dtx ((sd L).take (k + 1)) = dtx ((sd L).take k) ++ (if k = 0 then ptx L[k].2.2 else 44 :: ptx L[k].2.2)) := by
    unfold Hid
    rw [List.take_succ_eq_append_getElem (by rw [sd_len]; exact hkL), dtx_snoc, sdAt L k hkL]
    congr 1
    by_cases h0 : k = 0
    ·subst h0; simp
    ·rw [if_neg h0, if_neg (fun e => h0 (by have := congrArg List.length e; rw [List.length_take, List.length_nil, sd_len] at this; omega))]
   have hlen : Hid ((dtx ((sd L).take k)).length + 1 + (L[k].2.2.map ptW).sum ≤ 900000000000) := by
    have h1 := dtx_len ((sd L).take k)
    have h2 := dW_at (sd L) k (by rw [sd_len]; exact hkL)
    rw [sdAt L k hkL] at h2
    have h3 : rW L[k].2.2 = (L[k].2.2.map ptW).sum + 1 := rfl
    have := hD'.out
    unfold Hid
    omega
   have hpr : Hid (∀ W, Below w.heap.size W0 W → PRow W L[k].1 L[k].2.2) := fun W hW => ((hr'.out.below (hb0.out.trans hW)).2 _ (List.getElem_mem hkL)).1
   have hml : Hid (L[k].2.2.length ≤ 1073741824) := hz'.out.2 _ (List.getElem_mem hkL)
   have hlt' : Hid (k < n) := hlt
   generalize L[k] = r at *
   obtain ⟨pa, pc, ps⟩ := r
   dsimp only at c1 hT hbad hsn hok hlen hpr hml
   obtain ⟨m, hm⟩ : ∃ m, ps.length = m := ⟨_, rfl⟩
   have hm' : Hid (ps.length = m) := hm
   rw [hm] at c1 hT hml
   have hR0 : Hid (Wr w.heap.size w.heap.size W0 W0 (dtx ((sd L).take k)) wr) := hR.out.2.2
   generalize hX0 : dtx ((sd L).take k) = X0 at *
   clear hm hlt hk hkL hRw hR hX0
   go_wp2_with fail
   refine hT.out.mono ?_
   rintro e W1 ⟨hb1, ⟨h64, hokp, ta, tc, rfl, _⟩ | ⟨hno, rfl⟩⟩
   ·have h1 : Hid (Wr w.heap.size w.heap.size W0 W0 X0 W1) := hR0.out.below hb1
    have hk64 : Hid (k + 1 ≤ 64) := by unfold Hid; omega
    have hok' : Hid (∀ j (h : j < L.length), j < k + 1 → cer L[j].2.2 (j : Int) = 0) := hok.out (by omega) hokp
    clear hb1 hbad hok hokp hT hR0 hBw h64
    by_cases h0 : k = 0
    ·have kp : ¬ (0 : Int) < (k : Int) := by omega
     rw [if_pos h0] at hsn
     have hP : Hid (Calls Tryz.prog 41 #[.pointer (some ⟨w.heap.size, 0, none⟩), .slice pa m pc] W1 fun e w' => e = .returned (.tuple #[]) ∧ Wr w.heap.size w.heap.size W0 W0 (X0 ++ ptx ps) w') := writePairs_any _ _ X0 _ pc m ps W0 W0 W1 h1.out hm'.out hpr.out (by have := hlen.out; omega) (by have := hml.out; omega)
     rw [← hsn.out] at hP
     clear h0 hsn h1 hpr hlen
     go_wp2_with fail
     refine hP.out.mono ?_
     rintro e W2 ⟨rfl, h2⟩
     have hfin : Hid (k + 1 ≤ 64 ∧ (∀ j (h : j < L.length), j < k + 1 → cer L[j].2.2 (j : Int) = 0) ∧ Wr w.heap.size w.heap.size W0 W0 (dtx ((sd L).take (k + 1))) W2) := ⟨hk64.out, hok'.out, h2⟩
     clear hP h2 hk64 hok'
     go_wp2_with fail
     go_roundw
     case rel => exact ⟨k + 1, hlt'.out, by go_num, hfin⟩
     case measure => have := hlt'.out; simp [intOf]; omega
    ·have kp : (0 : Int) < (k : Int) := by omega
     rw [if_neg h0] at hsn
     have hB : Hid (Calls Tryz.prog 40 #[.pointer (some ⟨w.heap.size, 0, none⟩), .int .u8 44] W1 fun e w' => e = .returned .nilIface ∧ Wr w.heap.size w.heap.size W0 W0 (X0 ++ [44]) w') := h1.out.byte 44 (by have := hlen.out; omega)
     have hP : Hid (∀ W, Wr w.heap.size w.heap.size W0 W0 (X0 ++ [44]) W → Calls Tryz.prog 41 #[.pointer (some ⟨w.heap.size, 0, none⟩), .slice pa m pc] W fun e w' => e = .returned (.tuple #[]) ∧ Wr w.heap.size w.heap.size W0 W0 (dtx ((sd L).take (k + 1))) w') := fun W hW => by
      have h := writePairs_any _ _ (X0 ++ [44]) _ pc m ps W0 W0 W hW hm'.out hpr.out (by have := hlen.out; simp only [List.length_append, List.length_cons, List.length_nil]; omega) (by have := hml.out; omega)
      rw [hsn.out]
      simpa using h
     clear h0 hsn h1 hpr hlen
     go_wp2_with fail
     refine hB.out.mono ?_
     rintro e W2 ⟨rfl, h2⟩
     have hP2 : Hid (Calls Tryz.prog 41 #[.pointer (some ⟨w.heap.size, 0, none⟩), .slice pa m pc] W2 fun e w' => e = .returned (.tuple #[]) ∧ Wr w.heap.size w.heap.size W0 W0 (dtx ((sd L).take (k + 1))) w') := hP.out W2 h2
     clear hB hP h2
     go_wp2_with fail
     refine hP2.out.mono ?_
     rintro e W3 ⟨rfl, h3⟩
     have hfin : Hid (k + 1 ≤ 64 ∧ (∀ j (h : j < L.length), j < k + 1 → cer L[j].2.2 (j : Int) = 0) ∧ Wr w.heap.size w.heap.size W0 W0 (dtx ((sd L).take (k + 1))) W3) := ⟨hk64.out, hok'.out, h3⟩
     clear hP2 h3 hk64 hok'
     go_wp2_with fail
     go_roundw
     case rel => exact ⟨k + 1, hlt'.out, by go_num, hfin⟩
     case measure => have := hlt'.out; simp [intOf]; omega
   ·obtain ⟨t, u, htu⟩ : ∃ t u, refV ev (cer ps (k : Int)) (k : Int) = .iface t u := ⟨_, _, rfl⟩
    have hfin : Hid (PrF ev w (sd L) (.returned (.tuple #[.string ⟨#[]⟩, .iface t u])) W1) := by
     obtain ⟨q1, q2, q3⟩ := hbad.out hno
     exact ⟨hBw.out.trans (hb1.mono hBw.out.size), Or.inr (Or.inr ⟨k, q1, q2, by rw [q3, htu]⟩)⟩
    rw [htu]
    clear hno hb1 hbad hsn hok hR0 hT htu
    go_wp2_with fail
    go_ret2
    exact hfin.out
  ·have e : n = k := by omega
   subst e
   have i1 : ¬ (n : Int) < (n : Int) := by omega
   have hR' : Hid (Wr w.heap.size w.heap.size W0 W0 (dtx (sd L)) wr) := by
    have := hR.out.2.2
    rw [List.take_of_length_le (by rw [sd_len, hn'.out]; exact Nat.le_refl _)] at this
    exact this
   have hA : Hid (Az (sd L)) := fun j hj => by
    have hj' : j < L.length := by rw [sd_len] at hj; exact hj
    rw [sdAt L j hj']
    exact hR.out.2.1 j hj' (by rw [← hn'.out]; exact hj')
   have hdl : Hid ((dtx (sd L)).length ≤ 900000000000) := by
    have h1 := dtx_len (sd L)
    have := hD'.out
    unfold Hid
    omega
   have hL : Hid (Calls Tryz.prog 42 #[.pointer (some ⟨w.heap.size, 0, none⟩)] wr fun e w' => e = .returned (.int .i64 ((dtx (sd L)).length : Int)) ∧ w' = wr) := len_any _ _ _ wr hR'.out.1 (by have := hdl.out; omega)
   have hS : Hid (Calls Tryz.prog 43 #[.pointer (some ⟨w.heap.size, 0, none⟩)] wr fun e w' => e = .returned (.string (S (dtx (sd L)))) ∧ Below w.heap.size wr w') := bString_any _ _ _ wr hR'.out.1 hBw.out.size
   have hg := (hG'.out.1.below hBw.out)
   have g5 := ((hBw.out.cell (World.block_lt_of_cell? w _ hG'.out.2)).trans hG'.out.2)
   have hfin5 : Hid (4096 < (dtx (sd L)).length → PrF ev w (sd L) (.returned (.tuple #[.string ⟨#[]⟩, refV ev 50 (n : Int)])) wr.drew) := fun h => ⟨hBw.out.trans (below_drew _ _), Or.inr (Or.inl ⟨hA.out, h, by rw [sd_len, hn'.out]⟩)⟩
   have hfin0 : Hid (¬ 4096 < (dtx (sd L)).length → ∀ W, Below w.heap.size wr W → PrF ev w (sd L) (.returned (.tuple #[.string (S (dtx (sd L))), .nilIface])) W) := fun h W hW => ⟨hBw.out.trans hW, Or.inl ⟨hA.out, by omega, rfl⟩⟩
   clear hR hk hlt hR' hA hg
   obtain ⟨bn, hbn⟩ : ∃ bn, (dtx (sd L)).length = bn := ⟨_, rfl⟩
   rw [hbn] at hL hfin5 hfin0 hdl
   have bl : (bn : Int) ≤ 900000000000 := by have := hdl.out; omega
   clear hbn
   by_cases h4 : 4096 < bn
   ·have b4 : (4096 : Int) < (bn : Int) := by omega
    have hf := hfin5.out h4
    have hf' : Hid (PrF ev w (sd L) (.returned (.tuple #[.string ⟨#[]⟩, refV ev 50 (n : Int)])) wr.drew) := hf
    clear hfin5 hfin0 hS hf h4
    go_wp2_with (go_at_call 42; refine hL.out.mono ?_; rintro e w' ⟨rfl, rfl⟩)
    go_region
    go_wp2_with fail
    go_ret2
    exact hf'.out
   ·have b4 : ¬ (4096 : Int) < (bn : Int) := by omega
    have hf : Hid (∀ W, Below w.heap.size wr W → PrF ev w (sd L) (.returned (.tuple #[.string (S (dtx (sd L))), .nilIface])) W) := hfin0.out h4
    clear hfin5 hfin0 h4 g5
    go_wp2_with (go_at_call 42; refine hL.out.mono ?_; rintro e w' ⟨rfl, rfl⟩)
    refine hS.out.mono ?_
    rintro e W2 ⟨rfl, hb2⟩
    have hf' : Hid (PrF ev w (sd L) (.returned (.tuple #[.string (S (dtx (sd L))), .nilIface])) W2) := hf.out W2 hb2
    clear hf hb2 hS hL
    go_wp2_with fail
    go_ret2
    exact hf'.out
end Ke
end Go.Proofs.YtkknenmpdimdbaaGreatDoor

namespace Go.Proofs.YtkknenmpdimdbaaGreatDoor
namespace Du
open Go.RowKit Go.Lib
set_option linter.unusedVariables false
set_option maxRecDepth 100000
theorem PO.row {B : Nat} {r : PX} {W : World} (h : PO B r W) : PRow W r.1 r.2.2 ∧ r.2.2.length + 1 ≤ r.2.1 ∧ r.2.1 ≤ maxLen := by
 obtain ⟨g, e, h1⟩ := h
 obtain ⟨a, c, h2, h3, h4, h5⟩ := h1.row pV_len
 injection h2 with e1 _ e2
 subst e1 e2
 rw [List.length_append] at h3
 rw [e]
 exact ⟨h5.front, h3, h4⟩
theorem CpQ.grow {w : World} {L : List PX} {n : Nat} {a : Option Addr} {c : Nat} {Os : List PX} {w' : World} (h : CpQ w L n a c Os w') : DRow w' a Os ∧ ∃ g zg, a = some ⟨g, 0, none⟩ ∧ w'.cell? ⟨g, n, none⟩ = some (.slice (some ⟨zg, 0, none⟩) 1 1) ∧ w'.cell? ⟨zg, 0, none⟩ = some (.string (S sprB)) := by
 obtain ⟨h1, h2, h3, ⟨g, zg, rfl, h4, h4'⟩, h5, h6, h7, h8⟩ := h
 obtain ⟨a, c, e, _, _, hr⟩ := h4.row xV_len
 injection e with e1 _ e2
 subst e1
 refine ⟨⟨hr.front, fun r hr => ⟨(h6 r hr).row.1, by have := (h6 r hr).row.2.1; omega, (h6 r hr).row.2.2⟩⟩, g, zg, rfl, ?_, ?_⟩
 ·obtain ⟨b, off, e, h9⟩ := hr n (by rw [List.length_append, h1]; simp)
  injection e with e
  injection e with e1 e2
  subst e1 e2
  have := h9 0 (by omega)
  rw [List.getElem_append_right (by omega)] at this
  simpa [h1, xV] using this
 ·obtain ⟨b, off, e, p1, p2⟩ := prow_at h4' 0 (by simp)
  injection e with e
  injection e with e1 e2
  subst e1 e2
  simpa using p1
theorem CpQ.sd {w : World} {L : List PX} {n : Nat} {a : Option Addr} {c : Nat} {Os : List PX} {w' : World} (h : CpQ w L n a c Os w') (hn : L.length = n) : Du.sd Os = Du.sd L := by
 unfold Du.sd
 refine List.ext_getElem (by rw [List.length_map, List.length_map, h.1, hn]) (fun i h1 h2 => ?_)
 rw [List.getElem_map, List.getElem_map]
 exact h.2.2.2.2.1 i (by simpa using h1) (by simpa using h2)
theorem CpQ.below {w : World} {L : List PX} {n : Nat} {a : Option Addr} {c : Nat} {Os : List PX} {w' W : World} (h : CpQ w L n a c Os w') (hb : Below w'.heap.size w' W) : CpQ w L n a c Os W := by
 obtain ⟨h1, h2, h3, ⟨g, zg, e, h4, h4'⟩, h5, h6, h7, h8⟩ := h
 exact ⟨h1, h2, h3, ⟨g, zg, e, h4.below hb, h4'.below pV_len hb⟩, h5, fun r hr => (h6 r hr).below hb, h7.trans (hb.mono h7.size), h8⟩
end Du
end Go.Proofs.YtkknenmpdimdbaaGreatDoor

namespace Go.Proofs.YtkknenmpdimdbaaGreatDoor
namespace Pa
open Go.RowKit
open TextMath (fold lo normal check wo unhex)
open Ke
open Du (PX DRow PRow GRow GOwn KDp append_gen sd sd_len pV xV pV_len xV_len copyDN_any CpQ)
set_option linter.unusedVariables false
set_option linter.unusedSimpArgs false
set_option maxRecDepth 100000
abbrev Vd := Option (Nat × Int)
def xVd (ad : Nat → Addr) : Vd → Value
 | none => .nilIface
 | some v => refV (evP ad) v.1 v.2
def fVd : Vd → Int
 | none => 0
 | some v => (v.1 : Int)
def aVd : Vd → Int
 | none => 0
 | some v => v.2
def GdV (v : Vd) : Prop := ∀ x, v = some x → 50 ≤ x.1 ∧ x.1 ≤ 59
theorem gdV_none : GdV none := fun x h => by cases h
theorem gdV_some {k : Nat} {m : Int} (h : 50 ≤ k ∧ k ≤ 59) : GdV (some (k, m)) := fun x e => by
 injection e with e
 subst e
 exact h
theorem reasons_v (ad : Nat → Addr) (v : Vd) (hv : GdV v) (w : World) (h : Sen ad w) :
  Calls Tryz.prog 19 #[xVd ad v, .int .i64 (fVd v)] w fun e w' => e = .returned (.bool true) ∧ Below w.heap.size w w' := by
 cases v with
 | none => exact reasons_nil ad w h
 | some x => exact reasons_ref ad x.1 x.2 (hv x rfl) w h
theorem fault_v (ad : Nat → Addr) (v : Vd) (hv : GdV v) (w : World) (h : Sen ad w) (hT : ErrT w) :
  Calls Tryz.prog 25 #[xVd ad v] w fun e w' => e = .returned (.tuple #[.int .i64 (fVd v), .int .i64 (aVd v)]) ∧ Below w.heap.size w w' := by
 cases v with
 | none =>
  refine (fault_nil w).mono ?_
  rintro e w' ⟨rfl, rfl⟩
  exact ⟨rfl, Below.refl _ _⟩
 | some x => exact fault_all ad x.1 x.2 w h hT (hv x rfl)
def VPs (n : Nat) (R : DRs) (v : Vd) : Prop := (∃ D, R = .ok D ∧ v = none) ∨ (∃ k m, R = .error (k, m) ∧ v = some (k, ((n - m : Nat) : Int)))
theorem vPs_ex (n : Nat) (R : DRs) : ∃ v, VPs n R v := by
 cases R with
 | ok D => exact ⟨none, Or.inl ⟨D, rfl, rfl⟩⟩
 | error e => exact ⟨_, Or.inr ⟨e.1, e.2, rfl, rfl⟩⟩
theorem psQ_v {ad : Nat → Addr} {n : Nat} {w w' : World} {R : DRs} {v : Vd} {e : Ending} (hv : VPs n R v) (h : PsQ (evP ad) n w R e w') : (∃ a l c, e = .returned (.tuple #[.slice a l c, xVd ad v])) ∧ Below w.heap.size w w' := by
 refine ⟨?_, h.1⟩
 rcases h.2 with ⟨D, va, c, Ls, h1, h2, _⟩ | ⟨k, m, h1, h2⟩
 ·rcases hv with ⟨D', q1, rfl⟩ | ⟨k', m', q1, _⟩
  ·exact ⟨_, _, _, h2⟩
  ·rw [h1] at q1; cases q1
 ·rcases hv with ⟨D', q1, _⟩ | ⟨k', m', q1, rfl⟩
  ·rw [h1] at q1; cases q1
  ·rw [h1] at q1
   injection q1 with q1
   injection q1 with q1 q2
   subst q1 q2
   exact ⟨_, _, _, h2⟩
theorem prQ_v {n : Nat} {w w' : World} {R : DRs} {v : Vd} {e : Ending} (hv : VPs n R v) (h : PrQ5 n w R e w') : (∃ a l c, e = .returned (.tuple #[.slice a l c, .int .i64 (fVd v), .int .i64 (aVd v)])) ∧ Below w.heap.size w w' := by
 refine ⟨?_, h.1⟩
 rcases h.2 with ⟨D, va, c, Ls, h1, h2, _⟩ | ⟨k, m, h1, h2⟩
 ·rcases hv with ⟨D', q1, rfl⟩ | ⟨k', m', q1, _⟩
  ·exact ⟨_, _, _, h2⟩
  ·rw [h1] at q1; cases q1
 ·rcases hv with ⟨D', q1, _⟩ | ⟨k', m', q1, rfl⟩
  ·rw [h1] at q1; cases q1
  ·rw [h1] at q1
   injection q1 with q1
   injection q1 with q1 q2
   subst q1 q2
   exact ⟨_, _, _, h2⟩
theorem vPs_gd {t : List UInt8} {R : DRs} {v : Vd} (hR : prs hxO t = some R) (hv : VPs t.length R v) : GdV v := by
 rcases hv with ⟨D, _, rfl⟩ | ⟨k, m, h1, rfl⟩
 ·exact gdV_none
 ·have := prs_code (by rw [hR, h1])
  exact gdV_some (by omega)
theorem az_or_fs (D : List (List PR)) : Az D ∨ ∃ k, Fs D k := by
 have key : ∀ n, (∀ j (hj : j < D.length), j < n → cer D[j] (j : Int) = 0) ∨ ∃ k, Fs D k := fun n => by
  induction n with
  | zero => exact Or.inl fun j hj h => absurd h (Nat.not_lt_zero _)
  | succ n ih =>
   rcases ih with ih | ih
   ·by_cases hn : n < D.length
    ·by_cases hc : cer D[n] (n : Int) = 0
     ·refine Or.inl fun j hj h => ?_
      rcases Nat.lt_or_ge j n with q | q
      ·exact ih j hj q
      ·obtain rfl : j = n := by omega
       exact hc
     ·exact Or.inr ⟨n, hn, fun j h => ih j (by omega) h, hc⟩
    ·exact Or.inl fun j hj h => ih j hj (by omega)
   ·exact Or.inr ih
 rcases key D.length with h | h
 ·exact Or.inl fun j hj => h j hj hj
 ·exact Or.inr h
def VKy (D : List (List PR)) (v : Vd) : Prop := (Az D ∧ v = none) ∨ (∃ k, ∃ h : k < D.length, Fs D k ∧ v = some (cer D[k] (k : Int), (k : Int)))
theorem vKy_ex (D : List (List PR)) : ∃ v, VKy D v := by
 rcases az_or_fs D with h | ⟨k, h⟩
 ·exact ⟨none, Or.inl ⟨h, rfl⟩⟩
 ·obtain ⟨h1, _⟩ := id h
  exact ⟨_, Or.inr ⟨k, h1, h, rfl⟩⟩
theorem vKy_gd {D : List (List PR)} {v : Vd} (hv : VKy D v) : GdV v := by
 rcases hv with ⟨_, rfl⟩ | ⟨k, h, h1, rfl⟩
 ·exact gdV_none
 ·exact gdV_some (cer_two h1.2.2)
theorem keyF_v {ad : Nat → Addr} {w w' : World} {D : List (List PR)} {n : Nat} {v : Vd} {e : Ending} (hv : VKy D v) (h : KeyF (evP ad) w D n e w') : (∃ a l c, e = .returned (.tuple #[.slice a l c, xVd ad v])) ∧ Below w.heap.size w w' := by
 refine ⟨?_, h.1⟩
 rcases h.2 with ⟨h1, ka, kc, h2, _⟩ | ⟨k, h1, h2, h3⟩
 ·rcases hv with ⟨_, rfl⟩ | ⟨m, q1, q2, _⟩
  ·exact ⟨_, _, _, h2⟩
  ·exact (fs_az q2 (okd_az h1)).elim
 ·rcases hv with ⟨q1, _⟩ | ⟨m, q1, q2, rfl⟩
  ·exact (fs_az h2 q1).elim
  ·have := fs_one (show Fs D k from h2) q2
   subst this
   exact ⟨_, _, _, h3⟩
theorem kq_v {ad : Nat → Addr} {D : List (List PR)} {a : Option Addr} {kl : Nat} {x : Value} {W : World} {v : Vd} (hv : VKy D v) (h : Kq ad D a kl x W) : x = xVd ad v := by
 rcases h with ⟨h1, _, h2, _⟩ | ⟨k, h1, h2, _, h3⟩
 ·rcases hv with ⟨_, rfl⟩ | ⟨m, q1, q2, _⟩
  ·exact h2
  ·exact (fs_az q2 h1).elim
 ·rcases hv with ⟨q1, _⟩ | ⟨m, q1, q2, rfl⟩
  ·exact (fs_az h2 q1).elim
  ·have := fs_one h2 q2
   subst this
   exact h3
theorem rkF_v {w w' : World} {D : List (List PR)} {n : Nat} {v : Vd} {e : Ending} (hv : VKy D v) (h : RkF w D n e w') : (∃ a l c, e = .returned (.tuple #[.slice a l c, .int .i64 (fVd v), .int .i64 (aVd v)])) ∧ Below w.heap.size w w' := by
 refine ⟨?_, h.1⟩
 rcases h.2 with ⟨h1, ka, kc, h2, _⟩ | ⟨k, h1, h2, h3⟩
 ·rcases hv with ⟨_, rfl⟩ | ⟨m, q1, q2, _⟩
  ·exact ⟨_, _, _, h2⟩
  ·exact (fs_az q2 h1).elim
 ·rcases hv with ⟨q1, _⟩ | ⟨m, q1, q2, rfl⟩
  ·exact (fs_az h2 q1).elim
  ·have := fs_one h2 q2
   subst this
   exact ⟨_, _, _, h3⟩
def VKo (n : Nat) (R : DRs) (v : Vd) : Prop := (∃ D, R = .ok D ∧ VKy D v) ∨ (∃ k m, R = .error (k, m) ∧ v = some (k, ((n - m : Nat) : Int)))
theorem vKo_ex (n : Nat) (R : DRs) : ∃ v, VKo n R v := by
 cases R with
 | ok D =>
  obtain ⟨v, h⟩ := vKy_ex D
  exact ⟨v, Or.inl ⟨D, rfl, h⟩⟩
 | error e => exact ⟨_, Or.inr ⟨e.1, e.2, rfl, rfl⟩⟩
theorem vKo_gd {t : List UInt8} {R : DRs} {v : Vd} (hR : prs hxO t = some R) (hv : VKo t.length R v) : GdV v := by
 rcases hv with ⟨D, _, h⟩ | ⟨k, m, h1, rfl⟩
 ·exact vKy_gd h
 ·have := prs_code (by rw [hR, h1])
  exact gdV_some (by omega)
theorem koF_v {ad : Nat → Addr} {n : Nat} {w w' : World} {R : DRs} {v : Vd} {e : Ending} (hv : VKo n R v) (h : KoF ad n w R e w') : (∃ a l c, e = .returned (.tuple #[.slice a l c, xVd ad v])) ∧ Below w.heap.size w w' := by
 refine ⟨?_, h.1⟩
 rcases h.2 with ⟨D, a, kl, c, x, h1, h2, h3⟩ | ⟨k, m, h1, h2⟩
 ·rcases hv with ⟨D', q1, q2⟩ | ⟨k', m', q1, _⟩
  ·rw [h1] at q1
   injection q1 with q1
   subst q1
   rw [kq_v q2 h3] at h2
   exact ⟨_, _, _, h2⟩
  ·rw [h1] at q1; cases q1
 ·rcases hv with ⟨D', q1, _⟩ | ⟨k', m', q1, rfl⟩
  ·rw [h1] at q1; cases q1
  ·rw [h1] at q1
   injection q1 with q1
   injection q1 with q1 q2
   subst q1 q2
   exact ⟨_, _, _, h2⟩
theorem roF_v {n : Nat} {w w' : World} {R : DRs} {v : Vd} {e : Ending} (hv : VKo n R v) (h : RoF n w R e w') : (∃ a l c, e = .returned (.tuple #[.slice a l c, .int .i64 (fVd v), .int .i64 (aVd v)])) ∧ Below w.heap.size w w' := by
 rcases h with ⟨D, w1, h1, _, hb, h2⟩ | ⟨hb, k, m, h1, h2⟩
 ·rcases hv with ⟨D', q1, q2⟩ | ⟨k', m', q1, _⟩
  ·rw [h1] at q1
   injection q1 with q1
   subst q1
   obtain ⟨g1, g2⟩ := rkF_v q2 h2
   exact ⟨g1, hb.trans (g2.mono hb.size)⟩
  ·rw [h1] at q1; cases q1
 ·refine ⟨?_, hb⟩
  rcases hv with ⟨D', q1, _⟩ | ⟨k', m', q1, rfl⟩
  ·rw [h1] at q1; cases q1
  ·rw [h1] at q1
   injection q1 with q1
   injection q1 with q1 q2
   subst q1 q2
   exact ⟨_, _, _, h2⟩
def VPr (D : List (List PR)) (v : Vd) : Prop := (Az D ∧ (dtx D).length ≤ 4096 ∧ v = none) ∨ (Az D ∧ 4096 < (dtx D).length ∧ v = some (50, (D.length : Int))) ∨ (∃ k, ∃ h : k < D.length, Fs D k ∧ v = some (cer D[k] (k : Int), (k : Int)))
theorem vPr_ex (D : List (List PR)) : ∃ v, VPr D v := by
 rcases az_or_fs D with h | ⟨k, h⟩
 ·rcases Nat.lt_or_ge 4096 (dtx D).length with q | q
  ·exact ⟨_, Or.inr (Or.inl ⟨h, q, rfl⟩)⟩
  ·exact ⟨_, Or.inl ⟨h, q, rfl⟩⟩
 ·obtain ⟨h1, _⟩ := id h
  exact ⟨_, Or.inr (Or.inr ⟨k, h1, h, rfl⟩)⟩
theorem vPr_gd {D : List (List PR)} {v : Vd} (hv : VPr D v) : GdV v := by
 rcases hv with ⟨_, _, rfl⟩ | ⟨_, _, rfl⟩ | ⟨k, h, h1, rfl⟩
 ·exact gdV_none
 ·exact gdV_some (by omega)
 ·exact gdV_some (cer_two h1.2.2)
theorem prF_v {ad : Nat → Addr} {w w' : World} {D : List (List PR)} {v : Vd} {e : Ending} (hv : VPr D v) (h : PrF (evP ad) w D e w') : (∃ s, e = .returned (.tuple #[.string s, xVd ad v])) ∧ Below w.heap.size w w' := by
 refine ⟨?_, h.1⟩
 rcases h.2 with ⟨h1, h2, h3⟩ | ⟨h1, h2, h3⟩ | ⟨k, h1, h2, h3⟩
 ·rcases hv with ⟨q1, q2, rfl⟩ | ⟨q1, q2, _⟩ | ⟨m, q1, q2, _⟩
  ·exact ⟨_, h3⟩
  ·omega
  ·exact (fs_az q2 h1).elim
 ·rcases hv with ⟨q1, q2, _⟩ | ⟨q1, q2, rfl⟩ | ⟨m, q1, q2, _⟩
  ·omega
  ·exact ⟨_, h3⟩
  ·exact (fs_az q2 h1).elim
 ·rcases hv with ⟨q1, q2, _⟩ | ⟨q1, q2, _⟩ | ⟨m, q1, q2, rfl⟩
  ·exact (fs_az h2 q1).elim
  ·exact (fs_az h2 q1).elim
  ·have := fs_one h2 q2
   subst this
   exact ⟨_, h3⟩
theorem rpF_v {w w' : World} {D : List (List PR)} {v : Vd} {e : Ending} (hv : VPr D v) (h : RpF w D e w') : (∃ s, e = .returned (.tuple #[.string s, .int .i64 (fVd v), .int .i64 (aVd v)])) ∧ Below w.heap.size w w' := by
 refine ⟨?_, h.1⟩
 rcases h.2 with ⟨h1, h2, h3⟩ | ⟨h1, h2, h3⟩ | ⟨k, h1, h2, h3⟩
 ·rcases hv with ⟨q1, q2, rfl⟩ | ⟨q1, q2, _⟩ | ⟨m, q1, q2, _⟩
  ·exact ⟨_, h3⟩
  ·omega
  ·exact (fs_az q2 h1).elim
 ·rcases hv with ⟨q1, q2, _⟩ | ⟨q1, q2, rfl⟩ | ⟨m, q1, q2, _⟩
  ·omega
  ·exact ⟨_, h3⟩
  ·exact (fs_az q2 h1).elim
 ·rcases hv with ⟨q1, q2, _⟩ | ⟨q1, q2, _⟩ | ⟨m, q1, q2, rfl⟩
  ·exact (fs_az h2 q1).elim
  ·exact (fs_az h2 q1).elim
  ·have := fs_one h2 q2
   subst this
   exact ⟨_, h3⟩
def VRd (ps : List PR) (v : Vd) : Prop := (rerr ps = 0 ∧ v = none) ∨ (rerr ps ≠ 0 ∧ v = some (rerr ps, 0))
theorem vRd_ex (ps : List PR) : ∃ v, VRd ps v := by
 by_cases h : rerr ps = 0
 ·exact ⟨_, Or.inl ⟨h, rfl⟩⟩
 ·exact ⟨_, Or.inr ⟨h, rfl⟩⟩
theorem cer_z (ps : List PR) : cer ps 0 = rerr ps := by unfold cer; rw [if_neg (by decide)]
theorem vRd_gd {ps : List PR} {v : Vd} (hv : VRd ps v) : GdV v := by
 rcases hv with ⟨_, rfl⟩ | ⟨h, rfl⟩
 ·exact gdV_none
 ·rw [← cer_z] at h ⊢
  exact gdV_some (cer_two h)
theorem ktF_v {ad : Nat → Addr} {w w' : World} {ps : List PR} {v : Vd} {e : Ending} (hv : VRd ps v) (h : KtF (evP ad) w ps 0 e w') : (∃ s, e = .returned (.tuple #[.string s, xVd ad v])) ∧ Below w.heap.size w w' := by
 refine ⟨?_, h.1⟩
 rcases h.2 with ⟨_, h1, h2⟩ | ⟨h1, h2⟩
 ·rcases hv with ⟨_, rfl⟩ | ⟨q, _⟩
  ·exact ⟨_, h2⟩
  ·exact absurd (rer_ok h1) q
 ·rw [cer_z] at h1 h2
  rcases hv with ⟨q, _⟩ | ⟨_, rfl⟩
  ·exact absurd q h1
  ·exact ⟨_, h2⟩
theorem rtF_v {w w' : World} {ps : List PR} {v : Vd} {e : Ending} (hv : VRd ps v) (h : RtF w ps e w') : (∃ s, e = .returned (.tuple #[.string s, .int .i64 (fVd v), .int .i64 (aVd v)])) ∧ Below w.heap.size w w' := by
 refine ⟨?_, h.1⟩
 rcases h.2 with ⟨h1, h2⟩ | ⟨h1, h2⟩
 ·rcases hv with ⟨_, rfl⟩ | ⟨q, _⟩
  ·exact ⟨_, h2⟩
  ·exact absurd h1 q
 ·rcases hv with ⟨q, _⟩ | ⟨_, rfl⟩
  ·exact absurd q h1
  ·exact ⟨_, h2⟩
set_option maxHeartbeats 1000000 in
theorem part_F (ev : Nat → TypeId × Value) (a : Option Addr) (c n : Nat) (ps : List PR) (w : World) (hG : ErrsF ev w) (hn : ps.length = n) (hr : PRow w a ps) (hz : ∀ p ∈ ps, p.1.length + p.2.length ≤ 1073741824) (hnb : n ≤ 1073741824) :
  Calls Tryz.prog 23 #[.slice a n c] w fun e w' => KtF ev w ps 0 e w' := by
 have hK : Hid (Calls Tryz.prog 32 #[.slice a n c, .int .i64 0] w fun e w' => KtF ev w ps 0 e w') := keyText_F ev a c n ps 0 w hG hn hr hz (by omega)
 clear hG hn hr hz hnb
 go_enter Tryz.func23, Tryz.ntmps23
 go_wp2_with fail
 refine hK.out.mono ?_
 rintro e W1 hq
 obtain ⟨s, x, rfl⟩ : ∃ s x, e = .returned (.tuple #[.string s, x]) := by
  rcases hq.2 with ⟨_, _, h⟩ | ⟨_, h⟩
  ·exact ⟨_, _, h⟩
  ·exact ⟨_, _, h⟩
 have hq' : Hid (KtF ev w ps 0 (.returned (.tuple #[.string s, x])) W1) := hq
 clear hq hK
 go_wp2_with fail
 go_ret2
 exact hq'.out
theorem vd_mk (ad : Nat → Addr) (v : Vd) (hv : GdV v) : ∃ x f a, xVd ad v = x ∧ fVd v = f ∧ aVd v = a ∧ (∀ W, Sen ad W → Hid (Calls Tryz.prog 19 #[x, .int .i64 f] W fun e w' => e = .returned (.bool true) ∧ Below W.heap.size W w')) ∧ (∀ W, Sen ad W → ErrT W → Hid (Calls Tryz.prog 25 #[x] W fun e w' => e = .returned (.tuple #[.int .i64 f, .int .i64 a]) ∧ Below W.heap.size W w')) :=
 ⟨_, _, _, rfl, rfl, rfl, fun W h => reasons_v ad v hv W h, fun W h hT => fault_v ad v hv W h hT⟩
end Pa
end Go.Proofs.YtkknenmpdimdbaaGreatDoor
