import Derived.Test.YtihjlcclaoofhaaDoorPyF
import Derived.Test.YtihjlcclaoofhaaDoorKeP
import Derived.Test.YtihjlcclaoofhaaDoorLrW
namespace Go.Proofs.YtihjlcclaoofhaaDoor
namespace Ke
open Go.RowKit
open TextMath (fold lo normal check)
open Du (PRow DRow PX sd sd_len drow_at pV pV_len prow_at)
set_option linter.unusedVariables false
set_option linter.unusedSimpArgs false
set_option maxRecDepth 100000

theorem sdAt (L : List PX) (k : Nat) (h : k < L.length) : (sd L)[k]'(by rw [sd_len]; exact h) = L[k].2.2 := by simp [sd]
/-- The first part that is none. -/
def Fs (D : List (List PR)) (k : Nat) : Prop := ∃ h : k < D.length, (∀ j (h' : j < k), cer (D[j]'(by omega)) (j : Int) = 0) ∧ cer D[k] (k : Int) ≠ 0
/-- No part is wrong. -/
def Az (D : List (List PR)) : Prop := ∀ j (h : j < D.length), cer D[j] (j : Int) = 0
theorem fs_one {D : List (List PR)} {k m : Nat} (h : Fs D k) (h' : Fs D m) : k = m := by
  obtain ⟨hk, h1, h2⟩ := h
  obtain ⟨hm, h3, h4⟩ := h'
  rcases Nat.lt_trichotomy k m with q | q | q
  · exact absurd (h3 k q) h2
  · exact q
  · exact absurd (h1 m q) h4
theorem fs_az {D : List (List PR)} {k : Nat} (h : Fs D k) (h' : Az D) : False := by
  obtain ⟨hk, _, h2⟩ := h
  exact h2 (h' k hk)
/-- A name's text: its parts with commas between. -/
def dtT (D : List (List PR)) : List UInt8 := D.flatMap fun r => 44 :: ptx r
def dtx : List (List PR) → List UInt8
  | [] => []
  | r :: t => ptx r ++ dtT t
theorem dtx_snoc (l : List (List PR)) (p : List PR) : dtx (l ++ [p]) = dtx l ++ (if l = [] then ptx p else 44 :: ptx p) := by
  cases l with
  | nil => simp [dtx, dtT]
  | cons r t => simp [dtx, dtT]
def rW (ps : List PR) : Nat := (ps.map ptW).sum + 1
def dW (D : List (List PR)) : Nat := (D.map rW).sum
theorem dtT_len (D : List (List PR)) : (dtT D).length ≤ dW D := by
  induction D with
  | nil => simp [dtT]
  | cons p l ih =>
    have := ptx_len p
    unfold dtT dW at ih ⊢
    simp only [List.flatMap_cons, List.length_append, List.length_cons, List.map_cons, List.sum_cons]
    have hr : rW p = (p.map ptW).sum + 1 := rfl
    omega
theorem dtx_len (D : List (List PR)) : (dtx D).length ≤ dW D := by
  cases D with
  | nil => simp [dtx]
  | cons p l =>
    have := ptx_len p
    have := dtT_len l
    simp only [dtx, List.length_append]
    unfold dW at this ⊢
    simp only [List.map_cons, List.sum_cons]
    have hr : rW p = (p.map ptW).sum + 1 := rfl
    omega
theorem dW_at (D : List (List PR)) (k : Nat) (h : k < D.length) : dW (D.take k) + rW D[k] ≤ dW D := by
  have e : dW D = dW (D.take (k + 1)) + dW (D.drop (k + 1)) := by unfold dW; rw [← List.sum_append, ← List.map_append, List.take_append_drop]
  have e2 : dW (D.take (k + 1)) = dW (D.take k) + rW D[k] := by unfold dW; rw [List.take_succ_eq_append_getElem h, List.map_append, List.sum_append]; simp
  omega
theorem own_form {W : World} {B : Nat} {v : Value} {l : List UInt8} (h : Own W B v l) : ∃ a c, v = .slice a l.length c := by
  rcases h.2 with ⟨rfl, hn⟩ | ⟨g, cap, cur, rfl, hrest⟩
  · exact ⟨none, 0, by rw [hn]⟩
  · exact ⟨_, _, rfl⟩
theorem own_bn {W : World} {B bn bc : Nat} {ba : Option Addr} {l : List UInt8} (h : Own W B (.slice ba bn bc) l) : bn = l.length := by
  obtain ⟨a, c, e⟩ := own_form h
  injection e with e1 e2 e3
end Ke
end Go.Proofs.YtihjlcclaoofhaaDoor

namespace Go.Proofs.YtihjlcclaoofhaaDoor
namespace Ke
open Go.RowKit
open TextMath (fold lo normal check)
open Du (PRow DRow PX sd sd_len drow_at pV pV_len prow_at)
set_option linter.unusedVariables false
set_option linter.unusedSimpArgs false
set_option maxRecDepth 100000

set_option maxHeartbeats 1000000 in
theorem len_any (B b : Nat) (l : List UInt8) (w : World) (h : IsB B b l w) (hl : l.length ≤ 1099511627776) :
    Calls Tryd.prog 15 #[.pointer (some ⟨b, 0, none⟩)] w fun e w' => e = .returned (.int .i64 (l.length : Int)) ∧ w' = w := by
  obtain ⟨a, c, h1⟩ : ∃ a c, w.cell? ⟨b, 1, none⟩ = some (.slice a l.length c) := by
    have key : ∀ p, Lib.BuilderAt 43 5 B b p (bv l) w → ∃ a c, w.cell? ⟨b, 1, none⟩ = some (.slice a l.length c) := fun p hp => by
      obtain ⟨_, v, h2, h3, _⟩ := hp
      have h3' : Own w B v l := by unfold Own; rw [bv_len] at h3; exact h3
      obtain ⟨a, c, rfl⟩ := own_form h3'
      exact ⟨a, c, by rw [cell_of_row _ _ _ _ _ _ h2]; rfl⟩
    rcases h with h | h
    · exact key _ h
    · exact key _ h
  have hl' : (l.length : Int) ≤ 1099511627776 := by omega
  generalize l.length = n at *
  clear h
  go_enter Tryd.func15, Tryd.ntmps15
  go_wp2_with fail
  go_ret
  exact ⟨rfl, rfl⟩
/-- What Print answers. -/
def PrF (ev : Nat → TypeId × Value) (w : World) (D : List (List PR)) (e : Ending) (w' : World) : Prop :=
  Below w.heap.size w w' ∧ ((Az D ∧ (dtx D).length ≤ 4096 ∧ e = .returned (.tuple #[.string (S (dtx D)), .nilIface])) ∨ (Az D ∧ 4096 < (dtx D).length ∧ e = .returned (.tuple #[.string ⟨#[]⟩, refV ev 50 (D.length : Int)])) ∨ (∃ k, ∃ h : k < D.length, Fs D k ∧ e = .returned (.tuple #[.string ⟨#[]⟩, refV ev (cer D[k] (k : Int)) (k : Int)])))
set_option maxHeartbeats 4000000 in
theorem print_any (ev : Nat → TypeId × Value) (sa : Option Addr) (sc n : Nat) (L : List PX) (w : World) (hG : ErrsF ev w) (hG0 : w.cell? ⟨0, 0, none⟩ = some (.iface (ev 50).1 (ev 50).2)) (hn : L.length = n) (hr : DRow w sa L) (hz : ∀ r ∈ L, ∀ p ∈ r.2.2, p.1.length + p.2.length ≤ 1073741824) (hzl : ∀ r ∈ L, r.2.2.length ≤ 1073741824) (hnb : n ≤ 1073741824) (hD : dW (sd L) ≤ 900000000000) :
    Calls Tryd.prog 6 #[.slice sa n sc] w fun e w' => PrF ev w (sd L) e w' := by
  have nb : (n : Int) ≤ 1073741824 := by omega
  have hn' : Hid (L.length = n) := hn
  have hr' : Hid (DRow w sa L) := hr
  have hG' : Hid (ErrsF ev w ∧ w.cell? ⟨0, 0, none⟩ = some (.iface (ev 50).1 (ev 50).2)) := ⟨hG, hG0⟩
  have hz' : Hid ((∀ r ∈ L, ∀ p ∈ r.2.2, p.1.length + p.2.length ≤ 1073741824) ∧ ∀ r ∈ L, r.2.2.length ≤ 1073741824) := ⟨hz, hzl⟩
  have hD' : Hid (dW (sd L) ≤ 900000000000) := hD
  obtain ⟨W0, hW0⟩ : ∃ W0, w.alloc (.cells #[.pointer none, .slice none 0 0] 43) = W0 := ⟨_, rfl⟩
  have hb0 : Hid (Below w.heap.size w W0) := by unfold Hid; rw [← hW0]; exact (Below.refl _ _).alloc (Nat.le_refl _) _
  have hI0 : Hid (Wr w.heap.size w.heap.size W0 W0 [] W0) := by
    refine ⟨?_, Below.refl _ _, Lr.Kt.refl _, hb0.out.size⟩
    have h := Lib.fresh_isBuilder 43 5 w
    rw [hW0] at h
    exact h
  clear hG hG0 hn hr hz hzl hnb hD
  go_enter Tryd.func6, Tryd.ntmps6
  go_wp2_with fail
  go_loopw [11] (fun iv wr => ∃ k : Nat, k ≤ n ∧ iv = .int .i64 (k : Int) ∧ Hid (k ≤ 64 ∧ (∀ j (h : j < L.length), j < k → cer L[j].2.2 (j : Int) = 0) ∧ Wr w.heap.size w.heap.size W0 W0 (dtx ((sd L).take k)) wr)) (fun iv _ => n - (intOf iv).toNat)
  case atStart => exact ⟨0, Nat.zero_le _, rfl, by omega, fun j _ hj => by omega, by rw [List.take_zero]; exact hI0.out⟩
  case round =>
    obtain ⟨k, hk, rfl, hR⟩ := hrel
    clear hI0 hW0
    have k0 : (0 : Int) ≤ (k : Int) := Int.natCast_nonneg _
    have hBw : Hid (Below w.heap.size w wr) := hb0.out.trans hR.out.2.2.2.1
    by_cases hlt : k < n
    · have k1 : (k : Int) < (n : Int) := Int.ofNat_lt.2 hlt
      have hkL : k < L.length := by rw [hn'.out]; exact hlt
      have hRw := hr'.out.below hBw.out
      obtain ⟨b, off, rfl, c1⟩ := drow_at hRw k hkL
      have hT : Hid (Calls Tryd.prog 12 #[.slice L[k].1 L[k].2.2.length L[k].2.1, .int .i64 (k : Int)] wr fun e w' => CanF ev wr L[k].2.2 (k : Int) L[k].2.2.length e w') := canonical_typesF ev _ _ _ _ _ wr (hG'.out.1.below hBw.out) rfl (hRw.2 _ (List.getElem_mem hkL)).1 (fun p hp => by have := hz'.out.1 _ (List.getElem_mem hkL) p hp; omega) (by have := hz'.out.2 _ (List.getElem_mem hkL); omega)
      have hbad : Hid (cer L[k].2.2 (k : Int) ≠ 0 → ∃ h : k < (sd L).length, Fs (sd L) k ∧ cer (sd L)[k] (k : Int) = cer L[k].2.2 (k : Int)) := fun h => by
        have hk' : k < (sd L).length := by rw [sd_len]; exact hkL
        have e : (sd L)[k] = L[k].2.2 := sdAt L k hkL
        refine ⟨hk', ⟨hk', fun j hj => ?_, by rw [e]; exact h⟩, by rw [e]⟩
        rw [sdAt L j (by omega)]
        exact hR.out.2.1 j (by omega) hj
      have hok : Hid (k < 64 → OkP L[k].2.2 → ∀ j (h : j < L.length), j < k + 1 → cer L[j].2.2 (j : Int) = 0) := fun h64 h j hj hjk => by
        by_cases e : j = k
        · subst e
          unfold cer
          rw [if_neg (by omega)]
          exact rer_ok h
        · exact hR.out.2.1 j hj (by omega)
      have hsn : Hid (dtx ((sd L).take (k + 1)) = dtx ((sd L).take k) ++ (if k = 0 then ptx L[k].2.2 else 44 :: ptx L[k].2.2)) := by
        unfold Hid
        rw [List.take_succ_eq_append_getElem (by rw [sd_len]; exact hkL), dtx_snoc, sdAt L k hkL]
        congr 1
        by_cases h0 : k = 0
        · subst h0; simp
        · rw [if_neg h0, if_neg (fun e => h0 (by have := congrArg List.length e; rw [List.length_take, List.length_nil, sd_len] at this; omega))]
      have hlen : Hid ((dtx ((sd L).take k)).length + 1 + (L[k].2.2.map ptW).sum ≤ 900000000000) := by
        have h1 := dtx_len ((sd L).take k)
        have h2 := dW_at (sd L) k (by rw [sd_len]; exact hkL)
        rw [sdAt L k hkL] at h2
        have h3 : rW L[k].2.2 = (L[k].2.2.map ptW).sum + 1 := rfl
        have := hD'.out
        unfold Hid
        omega
      have hpr : Hid (∀ W, Below w.heap.size W0 W → PRow W L[k].1 L[k].2.2) := fun W hW => ((hr'.out.below (hb0.out.trans hW)).2 _ (List.getElem_mem hkL)).1
      have hml : Hid (L[k].2.2.length ≤ 1073741824) := hz'.out.2 _ (List.getElem_mem hkL)
      have hlt' : Hid (k < n) := hlt
      generalize L[k] = r at *
      obtain ⟨pa, pc, ps⟩ := r
      dsimp only at c1 hT hbad hsn hok hlen hpr hml
      obtain ⟨m, hm⟩ : ∃ m, ps.length = m := ⟨_, rfl⟩
      have hm' : Hid (ps.length = m) := hm
      rw [hm] at c1 hT hml
      have hR0 : Hid (Wr w.heap.size w.heap.size W0 W0 (dtx ((sd L).take k)) wr) := hR.out.2.2
      generalize hX0 : dtx ((sd L).take k) = X0 at *
      clear hm hlt hk hkL hRw hR hX0
      go_wp2_with fail
      refine hT.out.mono ?_
      rintro e W1 ⟨hb1, ⟨h64, hokp, ta, tc, rfl, _⟩ | ⟨hno, rfl⟩⟩
      · have h1 : Hid (Wr w.heap.size w.heap.size W0 W0 X0 W1) := hR0.out.below hb1
        have hk64 : Hid (k + 1 ≤ 64) := by unfold Hid; omega
        have hok' : Hid (∀ j (h : j < L.length), j < k + 1 → cer L[j].2.2 (j : Int) = 0) := hok.out (by omega) hokp
        clear hb1 hbad hok hokp hT hR0 hBw h64
        by_cases h0 : k = 0
        · have kp : ¬ (0 : Int) < (k : Int) := by omega
          rw [if_pos h0] at hsn
          have hP : Hid (Calls Tryd.prog 14 #[.pointer (some ⟨w.heap.size, 0, none⟩), .slice pa m pc] W1 fun e w' => e = .returned (.tuple #[]) ∧ Wr w.heap.size w.heap.size W0 W0 (X0 ++ ptx ps) w') := writePairs_any _ _ X0 _ pc m ps W0 W0 W1 h1.out hm'.out hpr.out (by have := hlen.out; omega) (by have := hml.out; omega)
          rw [← hsn.out] at hP
          clear h0 hsn h1 hpr hlen
          go_wp2_with fail
          refine hP.out.mono ?_
          rintro e W2 ⟨rfl, h2⟩
          have hfin : Hid (k + 1 ≤ 64 ∧ (∀ j (h : j < L.length), j < k + 1 → cer L[j].2.2 (j : Int) = 0) ∧ Wr w.heap.size w.heap.size W0 W0 (dtx ((sd L).take (k + 1))) W2) := ⟨hk64.out, hok'.out, h2⟩
          clear hP h2 hk64 hok'
          go_wp2_with fail
          go_roundw
          case rel => exact ⟨k + 1, hlt'.out, by go_num, hfin⟩
          case measure => have := hlt'.out; simp [intOf]; omega
        · have kp : (0 : Int) < (k : Int) := by omega
          rw [if_neg h0] at hsn
          have hB : Hid (Calls Tryd.prog 13 #[.pointer (some ⟨w.heap.size, 0, none⟩), .int .u8 44] W1 fun e w' => e = .returned .nilIface ∧ Wr w.heap.size w.heap.size W0 W0 (X0 ++ [44]) w') := h1.out.byte 44 (by have := hlen.out; omega)
          have hP : Hid (∀ W, Wr w.heap.size w.heap.size W0 W0 (X0 ++ [44]) W → Calls Tryd.prog 14 #[.pointer (some ⟨w.heap.size, 0, none⟩), .slice pa m pc] W fun e w' => e = .returned (.tuple #[]) ∧ Wr w.heap.size w.heap.size W0 W0 (dtx ((sd L).take (k + 1))) w') := fun W hW => by
            have h := writePairs_any _ _ (X0 ++ [44]) _ pc m ps W0 W0 W hW hm'.out hpr.out (by have := hlen.out; simp only [List.length_append, List.length_cons, List.length_nil]; omega) (by have := hml.out; omega)
            rw [hsn.out]
            simpa using h
          clear h0 hsn h1 hpr hlen
          go_wp2_with fail
          refine hB.out.mono ?_
          rintro e W2 ⟨rfl, h2⟩
          have hP2 : Hid (Calls Tryd.prog 14 #[.pointer (some ⟨w.heap.size, 0, none⟩), .slice pa m pc] W2 fun e w' => e = .returned (.tuple #[]) ∧ Wr w.heap.size w.heap.size W0 W0 (dtx ((sd L).take (k + 1))) w') := hP.out W2 h2
          clear hB hP h2
          go_wp2_with fail
          refine hP2.out.mono ?_
          rintro e W3 ⟨rfl, h3⟩
          have hfin : Hid (k + 1 ≤ 64 ∧ (∀ j (h : j < L.length), j < k + 1 → cer L[j].2.2 (j : Int) = 0) ∧ Wr w.heap.size w.heap.size W0 W0 (dtx ((sd L).take (k + 1))) W3) := ⟨hk64.out, hok'.out, h3⟩
          clear hP2 h3 hk64 hok'
          go_wp2_with fail
          go_roundw
          case rel => exact ⟨k + 1, hlt'.out, by go_num, hfin⟩
          case measure => have := hlt'.out; simp [intOf]; omega
      · obtain ⟨t, u, htu⟩ : ∃ t u, refV ev (cer ps (k : Int)) (k : Int) = .iface t u := ⟨_, _, rfl⟩
        have hfin : Hid (PrF ev w (sd L) (.returned (.tuple #[.string ⟨#[]⟩, .iface t u])) W1) := by
          obtain ⟨q1, q2, q3⟩ := hbad.out hno
          exact ⟨hBw.out.trans (hb1.mono hBw.out.size), Or.inr (Or.inr ⟨k, q1, q2, by rw [q3, htu]⟩)⟩
        rw [htu]
        clear hno hb1 hbad hsn hok hR0 hT htu
        go_wp2_with fail
        go_ret2
        exact hfin.out
    · have e : n = k := by omega
      subst e
      have i1 : ¬ (n : Int) < (n : Int) := by omega
      have hR' : Hid (Wr w.heap.size w.heap.size W0 W0 (dtx (sd L)) wr) := by
        have := hR.out.2.2
        rw [List.take_of_length_le (by rw [sd_len, hn'.out]; exact Nat.le_refl _)] at this
        exact this
      have hA : Hid (Az (sd L)) := fun j hj => by
        have hj' : j < L.length := by rw [sd_len] at hj; exact hj
        rw [sdAt L j hj']
        exact hR.out.2.1 j hj' (by rw [← hn'.out]; exact hj')
      have hdl : Hid ((dtx (sd L)).length ≤ 900000000000) := by
        have h1 := dtx_len (sd L)
        have := hD'.out
        unfold Hid
        omega
      have hL : Hid (Calls Tryd.prog 15 #[.pointer (some ⟨w.heap.size, 0, none⟩)] wr fun e w' => e = .returned (.int .i64 ((dtx (sd L)).length : Int)) ∧ w' = wr) := len_any _ _ _ wr hR'.out.1 (by have := hdl.out; omega)
      have hS : Hid (Calls Tryd.prog 16 #[.pointer (some ⟨w.heap.size, 0, none⟩)] wr fun e w' => e = .returned (.string (S (dtx (sd L)))) ∧ Below w.heap.size wr w') := bString_any _ _ _ wr hR'.out.1 hBw.out.size
      have hg := (hG'.out.1.below hBw.out)
      have g5 := ((hBw.out.cell (World.block_lt_of_cell? w _ hG'.out.2)).trans hG'.out.2)
      have hfin5 : Hid (4096 < (dtx (sd L)).length → PrF ev w (sd L) (.returned (.tuple #[.string ⟨#[]⟩, refV ev 50 (n : Int)])) wr.drew) := fun h => ⟨hBw.out.trans (below_drew _ _), Or.inr (Or.inl ⟨hA.out, h, by rw [sd_len, hn'.out]⟩)⟩
      have hfin0 : Hid (¬ 4096 < (dtx (sd L)).length → ∀ W, Below w.heap.size wr W → PrF ev w (sd L) (.returned (.tuple #[.string (S (dtx (sd L))), .nilIface])) W) := fun h W hW => ⟨hBw.out.trans hW, Or.inl ⟨hA.out, by omega, rfl⟩⟩
      clear hR hk hlt hR' hA hg
      obtain ⟨bn, hbn⟩ : ∃ bn, (dtx (sd L)).length = bn := ⟨_, rfl⟩
      rw [hbn] at hL hfin5 hfin0 hdl
      have bl : (bn : Int) ≤ 900000000000 := by have := hdl.out; omega
      clear hbn
      by_cases h4 : 4096 < bn
      · have b4 : (4096 : Int) < (bn : Int) := by omega
        have hf := hfin5.out h4
        have hf' : Hid (PrF ev w (sd L) (.returned (.tuple #[.string ⟨#[]⟩, refV ev 50 (n : Int)])) wr.drew) := hf
        clear hfin5 hfin0 hS hf h4
        go_wp2_with (go_at_call 15; refine hL.out.mono ?_; rintro e w' ⟨rfl, rfl⟩)
        go_region
        go_wp2_with fail
        go_ret2
        exact hf'.out
      · have b4 : ¬ (4096 : Int) < (bn : Int) := by omega
        have hf : Hid (∀ W, Below w.heap.size wr W → PrF ev w (sd L) (.returned (.tuple #[.string (S (dtx (sd L))), .nilIface])) W) := hfin0.out h4
        clear hfin5 hfin0 h4 g5
        go_wp2_with (go_at_call 15; refine hL.out.mono ?_; rintro e w' ⟨rfl, rfl⟩)
        refine hS.out.mono ?_
        rintro e W2 ⟨rfl, hb2⟩
        have hf' : Hid (PrF ev w (sd L) (.returned (.tuple #[.string (S (dtx (sd L))), .nilIface])) W2) := hf.out W2 hb2
        clear hf hb2 hS hL
        go_wp2_with fail
        go_ret2
        exact hf'.out
end Ke
end Go.Proofs.YtihjlcclaoofhaaDoor
