import Derived.Test.YtkknenmpdimdbaaGreatDoorFW43
import Derived.Sort.OwnSorted
namespace Go.Proofs.YtkknenmpdimdbaaGreatDoor
namespace Ke
open Go.RowKit Go.Lib Go.Sort
open TextMath (fold lo normal check)
open Du (PRow DRow PX sd sd_len drow_at pV pV_len)
set_option linter.unusedVariables false
set_option linter.unusedSimpArgs false
set_option maxRecDepth 100000
theorem sv_enc (l : List (List UInt8)) : sv l = l.map encStr := rfl
theorem rev_own (w : World) (B : Nat) (v : Value) (L : List (List UInt8)) (h : OwnS w B v L) (hl : L.length ≤ 4194304) :
  Calls Tryz.prog 33 #[v] w fun e w' => e = .returned (.tuple #[]) ∧ OwnS w' B v L.reverse ∧ Below B w w' := by
 rcases h.2 with ⟨rfl, hn⟩ | ⟨g, cap, cur, rfl, hbase, hb, h1, h2, h3, h4⟩
 ·have e : L = [] := List.eq_nil_of_length_eq_zero hn
  subst e
  refine (Tryz.slices_Reverse_string_empty none 0 w).mono ?_
  rintro e w' ⟨rfl, rfl⟩
  exact ⟨rfl, ownS_nil _ _, Below.refl _ _⟩
 ·refine (Tryz.slices_Reverse_string g 0 cap L w (holds_of_block hb (by rw [Nat.mul_one] at h4; rw [h4, sv_enc])) (by omega)).mono ?_
  rintro e w' ⟨rfl, n, rfl⟩
  have e0 : putRow encStr (Sort.ahead w n) g 0 L.reverse.toArray = grow (putRow encStr (Sort.ahead w n) g 0 L.reverse.toArray) #[] := by generalize putRow encStr (Sort.ahead w n) g 0 L.reverse.toArray = X; cases X; simp [grow]
  rw [e0]
  refine ⟨rfl, ?_, ?_⟩
  ·have h := ownsRow_sorted (ts := L.reverse) (ss := L) (os := #[]) (n := n) List.length_reverse hbase hb h1 h2 h3
   unfold OwnS
   rw [List.length_reverse, sv_enc]
   exact h
  ·have hg : w.grownBy (grow (putRow encStr (Sort.ahead w n) g 0 L.reverse.toArray) #[]) (some g) := grownBy_sorted _
   have hlt := (Array.getElem?_eq_some_iff.1 hb).1
   exact (Below.refl B w).grown hg (by omega) (fun j hj => by injection hj with hj; subst hj; exact hbase)
def KeyQ (w : World) (D : List (List PR)) (n : Nat) (e : Ending) (w' : World) : Prop :=
 Below w.heap.size w w' ∧ ((OkD D ∧ ∃ ka kc, e = .returned (.tuple #[.slice ka n kc, .nilIface]) ∧ OwnS w' w.heap.size (.slice ka n kc) (keys D)) ∨ (¬ OkD D ∧ ∃ t u, e = .returned (.tuple #[.slice none 0 0, .iface t u])))
theorem sd_at (L : List PX) (j : Nat) (h : j < L.length) : (sd L)[j]'(by rw [sd_len]; exact h) = L[j].2.2 := by simp [sd]
set_option maxHeartbeats 4000000 in
theorem key_any (sa : Option Addr) (sc n : Nat) (L : List PX) (w : World) (hG : ErrsG w) (hn : L.length = n) (hr : DRow w sa L) (hz : ∀ r ∈ L, ∀ p ∈ r.2.2, p.1.length + p.2.length ≤ 1073741824) (hzl : ∀ r ∈ L, r.2.2.length ≤ 1073741824) (hnb : n ≤ 1073741824) :
  Calls Tryz.prog 13 #[.slice sa n sc] w fun e w' => KeyQ w (sd L) n e w' := by
 have nb : (n : Int) ≤ 1073741824 := by omega
 have hn' : Hid (L.length = n) := hn
 have hr' : Hid (DRow w sa L) := hr
 have hG' : Hid (ErrsG w) := hG
 have hz' : Hid ((∀ r ∈ L, ∀ p ∈ r.2.2, p.1.length + p.2.length ≤ 1073741824) ∧ ∀ r ∈ L, r.2.2.length ≤ 1073741824) := ⟨hz, hzl⟩
 clear hG hn hr hz hzl hnb
 go_enter Tryz.func13, Tryz.ntmps13
 go_wp2_with fail
 go_loopw [4, 11] (fun kv iv wr => ∃ (k : Nat) (ka : Option Addr) (kc : Nat), k ≤ n ∧ iv = .int .i64 (k : Int) ∧ kv = .slice ka k kc ∧ Hid ((k ≤ 64) ∧ (∀ j (h : j < L.length), j < k → OkP L[j].2.2) ∧ OwnS wr w.heap.size (.slice ka k kc) (((sd L).take k).map keyTx) ∧ Below w.heap.size w wr)) (fun _ iv _ => n - (intOf iv).toNat)
 case atStart => exact ⟨0, none, 0, Nat.zero_le _, rfl, rfl, by omega, fun j _ hj => by omega, ownS_nil _ _, Below.refl _ _⟩
 case round =>
  obtain ⟨k, ka, kc, hk, rfl, rfl, hR⟩ := hrel
  have k0 : (0 : Int) ≤ (k : Int) := Int.natCast_nonneg _
  by_cases hlt : k < n
  ·have k1 : (k : Int) < (n : Int) := Int.ofNat_lt.2 hlt
   have hkL : k < L.length := by rw [hn'.out]; exact hlt
   have hRw := hr'.out.below hR.out.2.2.2
   obtain ⟨b, off, rfl, c1⟩ := drow_at hRw k hkL
   have hT : Hid (Calls Tryz.prog 32 #[.slice L[k].1 L[k].2.2.length L[k].2.1, .int .i64 (k : Int)] wr fun e w' => KtQ wr L[k].2.2 (k : Int) e w') := keyText_any _ _ _ _ _ wr (hG'.out.below hR.out.2.2.2) rfl (hRw.2 _ (List.getElem_mem hkL)).1 (hz'.out.1 _ (List.getElem_mem hkL)) (by have := hz'.out.2 _ (List.getElem_mem hkL); omega)
   have hbad : Hid (¬ ((k : Int) < 64 ∧ OkP L[k].2.2) → ¬ OkD (sd L)) := fun h hD => h ⟨by have := hD.1; rw [sd_len] at this; omega, hD.2 _ (by rw [← sd_at L k hkL]; exact List.getElem_mem _)⟩
   have hsn : Hid (((sd L).take (k + 1)).map keyTx = ((sd L).take k).map keyTx ++ [keyTx L[k].2.2]) := by
    unfold Hid
    rw [List.take_succ_eq_append_getElem (by rw [sd_len]; exact hkL), List.map_append, sd_at]
    rfl
   have hok : Hid (OkP L[k].2.2 → ∀ j (h : j < L.length), j < k + 1 → OkP L[j].2.2) := fun h j hj hjk => by
    by_cases e : j = k
    ·subst e; exact h
    ·exact hR.out.2.1 j hj (by omega)
   have hlt' : Hid (k < n) := hlt
   generalize L[k] = r at *
   obtain ⟨pa, pc, ps⟩ := r
   dsimp only at c1 hT hbad hsn hok
   generalize ps.length = m at *
   clear hk hlt hkL hRw
   go_wp2_with fail
   refine hT.out.mono ?_
   rintro e W1 ⟨hb1, ⟨h64, hokp, rfl⟩ | ⟨hno, t, u, rfl⟩⟩
   ·have hk64 : Hid (k + 1 ≤ 64) := by unfold Hid; omega
    have hb1' : Hid (Below wr.heap.size wr W1) := hb1
    have hlk : Hid ((((sd L).take k).map keyTx).length = k) := by
     unfold Hid
     rcases ownS_formD hR.out.2.2.1 with ⟨h0, h1⟩ | ⟨g, cap, h0, _⟩
     ·injection h0 with _ h0; rw [h1, h0]; rfl
     ·injection h0 with _ h0; exact h0.symm
    obtain ⟨v3, W3, e3', o3, b3⟩ := append_row (W1.alloc (.cells #[.string (S (keyTx ps))] 9)) w.heap.size (.slice ka k kc) (((sd L).take k).map keyTx) [keyTx ps] (some ⟨W1.heap.size, 0, none⟩) 1 1 (ownS_below (ownS_below hR.out.2.2.1 hb1) ((Below.refl _ _).alloc (Nat.le_refl _) _)) (row_one _ _) rfl (by have := hR.out.2.2.2.size; have := hb1.size; simp; omega) (by rw [hlk.out]; have := hk64.out; simp; omega)
    obtain ⟨ka', kc', rfl, _⟩ : ∃ ka' kc', v3 = .slice ka' (k + 1) kc' ∧ True := by
     have hl3 : (((sd L).take k).map keyTx ++ [keyTx ps]).length = k + 1 := by rw [List.length_append, hlk.out]; rfl
     rcases ownS_formD o3 with ⟨_, h0⟩ | ⟨g, cap, e, _⟩
     ·rw [h0] at hl3; simp at hl3
     ·exact ⟨_, _, by rw [e, hl3], trivial⟩
    have hfin : Hid ((k + 1 ≤ 64) ∧ (∀ j (h : j < L.length), j < k + 1 → OkP L[j].2.2) ∧ OwnS W3 w.heap.size (.slice ka' (k + 1) kc') (((sd L).take (k + 1)).map keyTx) ∧ Below w.heap.size w W3) := by
     refine ⟨hk64.out, hok.out hokp, by rw [hsn.out]; exact o3, ?_⟩
     have hbw : Below w.heap.size w W1 := hR.out.2.2.2.trans (hb1.mono hR.out.2.2.2.size)
     exact (hbw.alloc hbw.size _).trans b3
    generalize S (keyTx ps) = sk at *
    clear o3 b3 hok hokp h64 hb1 hb1' hlk hR hT hbad hsn hk64
    go_wp2_with (at_builtin; refine Lib.wpList_append_run _ rfl _ _ _ _ rfl _ _ rfl rfl _ _ e3' ?_; clear e3')
    go_roundw
    case rel => exact ⟨k + 1, ka', kc', hlt'.out, by go_num, rfl, hfin⟩
    case measure => have := hlt'.out; simp [intOf]; omega
   ·have hfin : Hid (KeyQ w (sd L) n (.returned (.tuple #[.slice none 0 0, .iface t u])) W1) := ⟨hR.out.2.2.2.trans (hb1.mono hR.out.2.2.2.size), Or.inr ⟨hbad.out hno, t, u, rfl⟩⟩
    clear hno hb1 hbad hsn hok hR hT
    go_wp2_with fail
    go_ret2
    exact hfin.out
  ·have e : n = k := by omega
   subst e
   have i1 : ¬ (n : Int) < (n : Int) := by omega
   have hlk : Hid ((sd L).take n = sd L) := List.take_of_length_le (by rw [sd_len, hn'.out]; exact Nat.le_refl _)
   have hV : Hid (Calls Tryz.prog 33 #[.slice ka n kc] wr fun e w' => e = .returned (.tuple #[]) ∧ OwnS w' w.heap.size (.slice ka n kc) (keys (sd L)) ∧ Below w.heap.size wr w') := by
    have h := rev_own wr w.heap.size (.slice ka n kc) _ hR.out.2.2.1 (by rw [List.length_map, List.length_take]; have := hR.out.1; omega)
    rw [hlk.out] at h
    exact h
   have hD : Hid (OkD (sd L)) := by
    refine ⟨by rw [sd_len, hn'.out]; exact hR.out.1, fun r hr => ?_⟩
    obtain ⟨j, hj, rfl⟩ := List.getElem_of_mem hr
    rw [sd_len] at hj
    rw [sd_at L j hj]
    exact hR.out.2.1 j hj (by rw [← hn'.out]; exact hj)
   have hBw : Hid (Below w.heap.size w wr) := hR.out.2.2.2
   clear hR hk hlt hlk
   go_wp2_with fail
   refine hV.out.mono ?_
   rintro e W2 ⟨rfl, ho, hb⟩
   have hfin : Hid (KeyQ w (sd L) n (.returned (.tuple #[.slice ka n kc, .nilIface])) W2) := ⟨hBw.out.trans hb, Or.inl ⟨hD.out, ka, kc, rfl, ho⟩⟩
   clear ho hb hV hBw
   go_wp2_with fail
   go_ret2
   exact hfin.out
end Ke
end Go.Proofs.YtkknenmpdimdbaaGreatDoor
