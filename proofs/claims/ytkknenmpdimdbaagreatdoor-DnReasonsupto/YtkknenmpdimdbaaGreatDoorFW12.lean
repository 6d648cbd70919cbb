import Derived.Test.YtkknenmpdimdbaaGreatDoorFW11
import Derived.Test.YtkknenmpdimdbaaGreatDoorAtShelf
import Derived.Test.YtkknenmpdimdbaaGreatDoorFW9
import Derived.Test.YtkknenmpdimdbaaGreatDoorFW10
namespace Go.Proofs.YtkknenmpdimdbaaGreatDoor
namespace Ke
open Go.RowKit
open TextMath (fold lo normal check)
open Du (PRow pV pV_len prow_at)
set_option linter.unusedVariables false
set_option linter.unusedSimpArgs false
set_option maxRecDepth 100000
def ErrsG (W : World) : Prop := ∃ t0 e0 t1 e1 t2 e2 t3 e3, W.cell? ⟨8, 0, none⟩ = some (.iface t0 e0) ∧ W.cell? ⟨9, 0, none⟩ = some (.iface t1 e1) ∧ W.cell? ⟨7, 0, none⟩ = some (.iface t2 e2) ∧ W.cell? ⟨1, 0, none⟩ = some (.iface t3 e3)
theorem ErrsG.below {W W' : World} (h : ErrsG W) (hb : Below W.heap.size W W') : ErrsG W' := by
 obtain ⟨t0, e0, t1, e1, t2, e2, t3, e3, h0, h1, h2, h3⟩ := h
 exact ⟨t0, e0, t1, e1, t2, e2, t3, e3, (hb.cell (World.block_lt_of_cell? W _ h0)).trans h0, (hb.cell (World.block_lt_of_cell? W _ h1)).trans h1, (hb.cell (World.block_lt_of_cell? W _ h2)).trans h2, (hb.cell (World.block_lt_of_cell? W _ h3)).trans h3⟩
theorem contains_any (l : List (List UInt8)) (x : List UInt8) (a : Option Addr) (c n : Nat) (w : World) (h : Row w a l) (hn : l.length = n) (hl : n ≤ 4194304) :
  Calls Tryz.prog 69 #[.slice a n c, .string (S x)] w fun r w' => r = .returned (.bool (decide (x ∈ l))) ∧ w' = w := by
 subst hn
 by_cases h0 : l.length = 0
 ·have := List.eq_nil_of_length_eq_zero h0
  subst this
  have h := Tryz.slices_Contains_string_empty a c (S x) w
  simpa using h
 ·obtain ⟨g, o, rfl, _⟩ := h 0 (by omega)
  have hk := Tryz.slices_Contains_string g o l.length c (l.map S) (S x) w (by simp) (by omega) (fun j hj => by
   have hj' : j < l.length := by simpa using hj
   obtain ⟨g', o', e, hc⟩ := h j hj'
   injection e with e
   injection e with e1 e2
   subst e1 e2
   rw [hc]
   simp [List.getD, hj'])
  have e : Lib.containsS ((l.map S).take l.length) (S x) = decide (x ∈ l) := by
   rw [List.take_of_length_le (by simp), Bool.eq_iff_iff, Lib.containsS_iff]
   simp
   constructor
   ·rintro ⟨y, hy, e⟩
    have := S_inj _ _ e
    rw [← this]
    exact hy
   ·intro hx
    exact ⟨x, hx, rfl⟩
  rw [e] at hk
  exact hk
theorem parse_ty (t : List UInt8) (w : World) (ht : t.length ≤ 140737488355328) :
  Calls Tryz.prog 51 #[.string (S t)] w fun e w' => (∃ m : Nat, e = .returned (.tuple #[.string (S (tyC t)), .int .i64 (if tyOk t = true then 0 else 40), .int .i64 (m : Int)])) ∧ Below w.heap.size w w' := by
 refine (parseType_any (S t) w (by rw [S_size]; exact ht)).mono ?_
 rintro e w' ⟨rfl, hb⟩
 rw [S_l]
 refine ⟨⟨(tyR t).2.2, ?_⟩, hb⟩
 rw [← tyR_er]
 unfold tyC tyR
 rw [S_of]
theorem check_ty (v : List UInt8) (w : World) (ht : v.length ≤ 140737488355328) :
  Calls Tryz.prog 29 #[.string (S v)] w fun e w' => (∃ m : Nat, e = .returned (.tuple #[.int .i64 (if utf v = true then 0 else 10), .int .i64 (m : Int)])) ∧ w' = w := by
 refine (check_any (S v) w (by rw [S_size]; unfold maxLen; omega)).mono ?_
 rintro e w' ⟨rfl, rfl⟩
 rw [S_l]
 exact ⟨⟨(check v).2, rfl⟩, rfl⟩
theorem row_one (w : World) (x : List UInt8) : Row (w.alloc (.cells #[.string (S x)] 9)) (some ⟨w.heap.size, 0, none⟩) [x] := fun i hi => by
 have h0 : i = 0 := by simp at hi; omega
 subst h0
 exact ⟨_, _, rfl, cell_one_new _ _ _ 0 _ rfl⟩
theorem below_drew (w : World) (B : Nat) : Below B w w.drew := ⟨rfl, rfl, rfl, Nat.le_refl _, fun _ _ => rfl⟩
def CanQ (w : World) (ps : List PR) (num : Int) (n : Nat) (e : Ending) (w' : World) : Prop :=
 Below w.heap.size w w' ∧ ((num < 64 ∧ OkP ps ∧ ∃ ta tc, e = .returned (.tuple #[.slice ta n tc, .nilIface]) ∧ OwnS w' w.heap.size (.slice ta n tc) (ps.map fun p => tyC p.1)) ∨ (¬ (num < 64 ∧ OkP ps) ∧ ∃ t u, e = .returned (.tuple #[.slice none 0 0, .iface t u])))
set_option maxHeartbeats 4000000 in
theorem canonical_types (a : Option Addr) (c n : Nat) (ps : List PR) (num : Int) (w : World) (hG : ErrsG w) (hn : ps.length = n) (hr : PRow w a ps) (hz : ∀ p ∈ ps, p.1.length + p.2.length ≤ 140737488355328) (hnb : n ≤ 140737488355328) :
  Calls Tryz.prog 39 #[.slice a n c, .int .i64 num] w fun e w' => CanQ w ps num n e w' := by
 have nb : (n : Int) ≤ 140737488355328 := by omega
 have n0 : (0 : Int) ≤ (n : Int) := by omega
 have hn' : Hid (ps.length = n) := hn
 have hr' : Hid (PRow w a ps) := hr
 have hz' : Hid (∀ p ∈ ps, p.1.length + p.2.length ≤ 140737488355328) := hz
 have hG' : Hid (ErrsG w) := hG
 clear hr hz
 by_cases h64 : (64 : Int) ≤ num
 ·obtain ⟨t0, e0, t1, e1, t2, e2, t3, e3, g0, g1, g2, g3⟩ := hG
  have hno : Hid (¬ (num < 64 ∧ OkP ps)) := fun h => by omega
  clear hn hG' hr' hz' hn'
  go_enter Tryz.func39, Tryz.ntmps39
  go_wp2_with fail
  go_region
  go_wp2_with fail
  go_ret2
  exact ⟨below_drew _ _, Or.inr ⟨hno.out, _, _, rfl⟩⟩
 ·by_cases hz0 : n = 0
  ·subst hz0
   obtain ⟨t0, e0, t1, e1, t2, e2, t3, e3, g0, g1, g2, g3⟩ := hG
   have hno : Hid (¬ (num < 64 ∧ OkP ps)) := fun h => by have := h.2.1; omega
   clear hn hG' hr' hz' hn'
   go_enter Tryz.func39, Tryz.ntmps39
   go_wp2_with fail
   go_region
   go_wp2_with fail
   go_ret2
   exact ⟨below_drew _ _, Or.inr ⟨hno.out, _, _, rfl⟩⟩
  ·have nz : ¬ ((n : Int) = 0) := by omega
   by_cases hz8 : 8 < n
   ·have n8 : (8 : Int) < (n : Int) := by omega
    obtain ⟨t0, e0, t1, e1, t2, e2, t3, e3, g0, g1, g2, g3⟩ := hG
    have hno : Hid (¬ (num < 64 ∧ OkP ps)) := fun h => by have := h.2.2.1; omega
    clear hn hG' hr' hz' hn'
    go_enter Tryz.func39, Tryz.ntmps39
    go_wp2_with fail
    go_region
    go_wp2_with fail
    go_ret2
    exact ⟨below_drew _ _, Or.inr ⟨hno.out, _, _, rfl⟩⟩
   ·have n8 : ¬ (8 : Int) < (n : Int) := by omega
    have hlo : Hid (1 ≤ n ∧ n ≤ 8 ∧ num < 64) := ⟨by omega, by omega, by omega⟩
    clear hG hn hnb hz0 hz8
    go_enter Tryz.func39, Tryz.ntmps39
    go_wp2_with fail
    go_loopw [6, 39] (fun tv iv wr => ∃ (k : Nat) (ta : Option Addr) (tc : Nat), k ≤ n ∧ iv = .int .i64 (k : Int) ∧ tv = .slice ta k tc ∧ Hid ((∀ j, j < k → OkI ps j) ∧ OwnS wr w.heap.size (.slice ta k tc) ((ps.take k).map fun p => tyC p.1) ∧ Below w.heap.size w wr)) (fun _ iv _ => n - (intOf iv).toNat)
    case atStart => exact ⟨0, none, 0, Nat.zero_le _, rfl, rfl, fun j hj => by omega, ownS_nil _ _, Below.refl _ _⟩
    case round =>
     obtain ⟨k, ta, tc, hk, rfl, rfl, hR⟩ := hrel
     have k0 : (0 : Int) ≤ (k : Int) := Int.natCast_nonneg _
     by_cases hlt : k < n
     ·have k1 : (k : Int) < (n : Int) := Int.ofNat_lt.2 hlt
      have hkP : k < ps.length := by rw [hn'.out]; exact hlt
      obtain ⟨pb, po, rfl, c3, c4⟩ := prow_at (hr'.out.below pV_len hR.out.2.2) k hkP
      have hzk := hz'.out _ (List.getElem_mem hkP)
      have hIk : Hid (tyOk ps[k].1 = true → tyC ps[k].1 ∉ (ps.take k).map (fun p => tyC p.1) → utf ps[k].2 = true → OkI ps k) := fun h1 h2 h3 => ⟨hkP, h1, h2, h3⟩
      have hIn : Hid (OkP ps → tyOk ps[k].1 = true ∧ tyC ps[k].1 ∉ (ps.take k).map (fun p => tyC p.1) ∧ utf ps[k].2 = true) := fun h => by obtain ⟨_, h1, h2, h3⟩ := h.2.2 k hkP; exact ⟨h1, h2, h3⟩
      have hsn : Hid ((ps.take (k + 1)).map (fun p => tyC p.1) = (ps.take k).map (fun p => tyC p.1) ++ [tyC ps[k].1]) := by unfold Hid; rw [List.take_succ_eq_append_getElem hkP, List.map_append]; rfl
      generalize ps[k] = p at *
      obtain ⟨t, v⟩ := p
      dsimp only at c3 c4 hzk hIk hIn hsn
      generalize hT : (ps.take k).map (fun p => tyC p.1) = T at *
      have hTl : Hid (T.length = k) := by unfold Hid; rw [← hT, List.length_map, List.length_take]; omega
      obtain ⟨W1, hW1⟩ : ∃ W1, wr.alloc (.cells #[.string (S t), .string (S v)] 64) = W1 := ⟨_, rfl⟩
      have hb1 : Hid (Below wr.heap.size wr W1) := by unfold Hid; rw [← hW1]; exact (Below.refl _ _).alloc (Nat.le_refl _) _
      have hx1 : Hid (W1.heap[wr.heap.size]? = some (.cells #[.string (S t), .string (S v)] 64 (0, 0))) := by unfold Hid; rw [← hW1]; exact heap_alloc_new _ _
      have hP : Hid (Calls Tryz.prog 51 #[.string (S t)] W1 fun e w' => (∃ m : Nat, e = .returned (.tuple #[.string (S (tyC t)), .int .i64 (if tyOk t = true then 0 else 40), .int .i64 (m : Int)])) ∧ Below W1.heap.size W1 w') := parse_ty t W1 (by omega)
      have hC : Hid (∀ W, Row W ta T → Calls Tryz.prog 69 #[.slice ta k tc, .string (S (tyC t))] W fun r w' => r = .returned (.bool (decide (tyC t ∈ T))) ∧ w' = W) := fun W h => contains_any T (tyC t) ta tc k W h hTl.out (by have := hlo.out; omega)
      have hK : Hid (∀ W, Calls Tryz.prog 29 #[.string (S v)] W fun e w' => (∃ m : Nat, e = .returned (.tuple #[.int .i64 (if utf v = true then 0 else 10), .int .i64 (m : Int)])) ∧ w' = W) := fun W => check_ty v W (by omega)
      have hlt' : Hid (k < n) := hlt
      have hk8 : Hid (k ≤ 8) := by have := hlo.out; unfold Hid; omega
      obtain ⟨st, hst⟩ : ∃ st, S t = st := ⟨_, rfl⟩
      obtain ⟨sv', hsv⟩ : ∃ sv', S v = sv' := ⟨_, rfl⟩
      rw [hst] at c3 hW1 hx1 hP
      rw [hsv] at c4 hW1 hx1 hK
      clear hst hsv hzk hkP hlt hk
      have c1 : W1.cell? ⟨wr.heap.size, 0, none⟩ = some (.string st) := by rw [cell_of_row _ _ _ _ _ _ hx1.out]; rfl
      go_wp2_with fail
      refine hP.out.mono ?_
      rintro e W2 ⟨⟨m2, rfl⟩, hb2⟩
      have hb2' : Hid (Below W1.heap.size W1 W2) := hb2
      have hx2 : W2.heap[wr.heap.size]? = some (.cells #[.string st, .string sv'] 64 (0, 0)) := by rw [hb2.block _ (Array.getElem?_eq_some_iff.1 hx1.out).1]; exact hx1.out
      have c5 : W2.cell? ⟨wr.heap.size, 1, none⟩ = some (.string sv') := by rw [cell_of_row _ _ _ _ _ _ hx2]; rfl
      have hB2 : Hid (Below wr.heap.size wr W2) := hb1.out.trans (hb2.mono hb1.out.size)
      have hBw : Hid (Below w.heap.size w W2) := hR.out.2.2.trans (hB2.out.mono hR.out.2.2.size)
      have hG2 := hG'.out.below hBw.out
      have hO2 : Hid (OwnS W2 w.heap.size (.slice ta k tc) T) := ownS_below hR.out.2.1 hB2.out
      clear hb2 hx2 hP hx1 hb1 hb2' hB2
      obtain ⟨t0, e0, t1, e1, t2, e2, t3, e3, g0, g1, g2, g3⟩ := hG2
      by_cases hty : tyOk t = true
      ·rw [if_pos hty]
       have hC2 : Hid (Calls Tryz.prog 69 #[.slice ta k tc, .string (S (tyC t))] W2 fun r w' => r = .returned (.bool (decide (tyC t ∈ T))) ∧ w' = W2) := hC.out W2 (ownS_row hO2.out).1
       by_cases hin : tyC t ∈ T
       ·have hno : Hid (¬ (num < 64 ∧ OkP ps)) := fun h => (hIn.out h.2).2.1 hin
        rw [decide_eq_true hin] at hC2
        clear hIn hIk hC hin hty hR hO2 hsn hTl hT
        go_wp2_with (go_at_call 69; refine hC2.out.mono ?_; rintro e w' ⟨rfl, rfl⟩)
        go_region
        go_wp2_with fail
        go_ret2
        exact ⟨hBw.out.trans (below_drew _ _), Or.inr ⟨hno.out, _, _, rfl⟩⟩
       ·rw [decide_eq_false hin] at hC2
        have hK2 : Hid (Calls Tryz.prog 29 #[.string sv'] W2 fun e w' => (∃ m : Nat, e = .returned (.tuple #[.int .i64 (if utf v = true then 0 else 10), .int .i64 (m : Int)])) ∧ w' = W2) := hK.out W2
        clear hC hK
        by_cases hut : utf v = true
        ·rw [if_pos hut] at hK2
         have hok : Hid (OkI ps k) := hIk.out hty hin hut
         obtain ⟨v3, W3, e3', o3, b3⟩ := append_row (W2.alloc (.cells #[.string (S (tyC t))] 9)) w.heap.size (.slice ta k tc) T [tyC t] (some ⟨W2.heap.size, 0, none⟩) 1 1 (ownS_below hO2.out ((Below.refl _ _).alloc (Nat.le_refl _) _)) (row_one _ _) rfl (by have := hBw.out.size; simp; omega) (by have := hTl.out; have := hk8.out; simp; omega)
         obtain ⟨ta', tc', rfl, _⟩ : ∃ ta' tc', v3 = .slice ta' (k + 1) tc' ∧ True := by
          have hl3 : (T ++ [tyC t]).length = k + 1 := by rw [List.length_append, hTl.out]; rfl
          rcases ownS_formD o3 with ⟨_, h0⟩ | ⟨g, cap, e, _⟩
          ·rw [h0] at hl3; simp at hl3
          ·exact ⟨_, _, by rw [e, hl3], trivial⟩
         have hfin : Hid ((∀ j, j < k + 1 → OkI ps j) ∧ OwnS W3 w.heap.size (.slice ta' (k + 1) tc') ((ps.take (k + 1)).map fun p => tyC p.1) ∧ Below w.heap.size w W3) := by
          refine ⟨fun j hj => ?_, by rw [hsn.out]; exact o3, (hBw.out.alloc hBw.out.size _).trans b3⟩
          by_cases e : j = k
          ·rw [e]; exact hok.out
          ·exact hR.out.1 j (by omega)
         clear o3 b3 hIn hIk hok hR hO2 hsn hTl hT hty hin hut hBw
         go_wp2_with (first
          | (go_at_call 69; refine hC2.out.mono ?_; rintro e w' ⟨rfl, rfl⟩)
          | (go_at_call 29; refine hK2.out.mono ?_; rintro e w' ⟨⟨m3, rfl⟩, rfl⟩)
          | (at_builtin; refine Lib.wpList_append_run _ rfl _ _ _ _ rfl _ _ rfl rfl _ _ e3' ?_; clear e3'))
         go_roundw
         case rel => exact ⟨k + 1, ta', tc', hlt'.out, by go_num, rfl, hfin⟩
         case measure => have := hlt'.out; simp [intOf]; omega
        ·rw [if_neg hut] at hK2
         have hno : Hid (¬ (num < 64 ∧ OkP ps)) := fun h => hut (hIn.out h.2).2.2
         clear hIn hIk hin hty hR hO2 hsn hTl hT hut
         go_wp2_with (first
          | (go_at_call 69; refine hC2.out.mono ?_; rintro e w' ⟨rfl, rfl⟩)
          | (go_at_call 29; refine hK2.out.mono ?_; rintro e w' ⟨⟨m3, rfl⟩, rfl⟩))
         go_region
         go_wp2_with fail
         go_ret2
         exact ⟨hBw.out.trans (below_drew _ _), Or.inr ⟨hno.out, _, _, rfl⟩⟩
      ·rw [if_neg hty]
       have hno : Hid (¬ (num < 64 ∧ OkP ps)) := fun h => hty (hIn.out h.2).1
       clear hIn hIk hC hK hty hR hO2 hsn hTl hT
       go_wp2_with fail
       go_region
       go_wp2_with fail
       go_ret2
       exact ⟨hBw.out.trans (below_drew _ _), Or.inr ⟨hno.out, _, _, rfl⟩⟩
     ·have e : n = k := by omega
      subst e
      have i1 : ¬ (n : Int) < (n : Int) := by omega
      have hfin : Hid (CanQ w ps num n (.returned (.tuple #[.slice ta n tc, .nilIface])) wr) := by
       refine ⟨hR.out.2.2, Or.inl ⟨hlo.out.2.2, ⟨by rw [hn'.out]; exact hlo.out.1, by rw [hn'.out]; exact hlo.out.2.1, fun i hi => hR.out.1 i (by rw [← hn'.out]; exact hi)⟩, ta, tc, rfl, ?_⟩⟩
       have := hR.out.2.1
       rw [List.take_of_length_le (by rw [hn'.out]; exact Nat.le_refl _)] at this
       exact this
      clear hR hk hlt
      go_wp2_with fail
      go_ret2
      exact hfin.out
end Ke
end Go.Proofs.YtkknenmpdimdbaaGreatDoor

namespace Go.Proofs.YtkknenmpdimdbaaGreatDoor
namespace Ke
open TextMath (fold lo normal check)
set_option linter.unusedVariables false
def perr : List (List UInt8) → List PR → Nat
 | _, [] => 0
 | seen, p :: t => if tyOk p.1 = false then 59 else if tyC p.1 ∈ seen then 57 else if utf p.2 = false then 51 else perr (seen ++ [tyC p.1]) t
def rerr (ps : List PR) : Nat := if ps.length = 0 then 59 else if 8 < ps.length then 58 else perr [] ps
def cer (ps : List PR) (num : Int) : Nat := if 64 ≤ num then 58 else rerr ps
def tys (l : List PR) : List (List UInt8) := l.map fun p => tyC p.1
theorem perr_at (ps : List PR) : ∀ k, k ≤ ps.length → (∀ j, j < k → OkI ps j) → perr [] ps = perr (tys (ps.take k)) (ps.drop k)
 | 0, _, _ => by simp [tys]
 | k + 1, hk, h => by
  rw [perr_at ps k (by omega) (fun j hj => h j (by omega))]
  obtain ⟨hlt, h1, h2, h3⟩ := h k (by omega)
  rw [List.drop_eq_getElem_cons hlt]
  conv => lhs; unfold perr
  have h2' : tyC ps[k].1 ∉ tys (ps.take k) := h2
  rw [if_neg (by rw [h1]; decide), if_neg h2', if_neg (by rw [h3]; decide), List.take_succ_eq_append_getElem hlt]
  unfold tys
  rw [List.map_append]
  rfl
theorem rer_one {ps : List PR} (h1 : 1 ≤ ps.length) (h8 : ps.length ≤ 8) (k : Nat) (hk : k < ps.length) (h : ∀ j, j < k → OkI ps j) : rerr ps = perr (tys (ps.take k)) (ps[k] :: ps.drop (k + 1)) := by
 unfold rerr
 rw [if_neg (by omega), if_neg (by omega), perr_at ps k (by omega) h, List.drop_eq_getElem_cons hk]
theorem rer_ty {ps : List PR} (h1 : 1 ≤ ps.length) (h8 : ps.length ≤ 8) (k : Nat) (hk : k < ps.length) (h : ∀ j, j < k → OkI ps j) (ht : ¬ tyOk ps[k].1 = true) : rerr ps = 59 := by
 rw [rer_one h1 h8 k hk h]
 unfold perr
 rw [if_pos (by simpa using ht)]
theorem rer_in {ps : List PR} (h1 : 1 ≤ ps.length) (h8 : ps.length ≤ 8) (k : Nat) (hk : k < ps.length) (h : ∀ j, j < k → OkI ps j) (ht : tyOk ps[k].1 = true) (hi : tyC ps[k].1 ∈ tys (ps.take k)) : rerr ps = 57 := by
 rw [rer_one h1 h8 k hk h]
 unfold perr
 rw [if_neg (by rw [ht]; decide), if_pos hi]
theorem rer_ut {ps : List PR} (h1 : 1 ≤ ps.length) (h8 : ps.length ≤ 8) (k : Nat) (hk : k < ps.length) (h : ∀ j, j < k → OkI ps j) (ht : tyOk ps[k].1 = true) (hi : tyC ps[k].1 ∉ tys (ps.take k)) (hu : ¬ utf ps[k].2 = true) : rerr ps = 51 := by
 rw [rer_one h1 h8 k hk h]
 unfold perr
 rw [if_neg (by rw [ht]; decide), if_neg hi, if_pos (by simpa using hu)]
theorem rer_ok {ps : List PR} (h : OkP ps) : rerr ps = 0 := by
 unfold rerr
 have h1 := h.1
 have h2 := h.2.1
 rw [if_neg (by omega), if_neg (by omega), perr_at ps ps.length (Nat.le_refl _) h.2.2, List.drop_of_length_le (Nat.le_refl _)]
 rfl
theorem rer_mem (ps : List PR) : rerr ps = 0 ∨ rerr ps = 51 ∨ rerr ps = 57 ∨ rerr ps = 58 ∨ rerr ps = 59 := by
 have key : ∀ (l : List PR) (s : List (List UInt8)), perr s l = 0 ∨ perr s l = 51 ∨ perr s l = 57 ∨ perr s l = 59 := fun l => by
  induction l with
  | nil => intro s; exact Or.inl rfl
  | cons p t ih =>
   intro s
   unfold perr
   split
   ·exact Or.inr (Or.inr (Or.inr rfl))
   ·split
    ·exact Or.inr (Or.inr (Or.inl rfl))
    ·split
     ·exact Or.inr (Or.inl rfl)
     ·exact ih _
 unfold rerr
 split
 ·exact Or.inr (Or.inr (Or.inr (Or.inr rfl)))
 ·split
  ·exact Or.inr (Or.inr (Or.inr (Or.inl rfl)))
  ·rcases key ps [] with h | h | h | h
   ·exact Or.inl h
   ·exact Or.inr (Or.inl h)
   ·exact Or.inr (Or.inr (Or.inl h))
   ·exact Or.inr (Or.inr (Or.inr (Or.inr h)))
end Ke
end Go.Proofs.YtkknenmpdimdbaaGreatDoor

namespace Go.Proofs.YtkknenmpdimdbaaGreatDoor
namespace Ke
open Go.RowKit
open TextMath (fold lo normal check)
open Du (PRow pV pV_len prow_at)
set_option linter.unusedVariables false
set_option linter.unusedSimpArgs false
set_option maxRecDepth 100000
def ErrsF (ev : Nat → TypeId × Value) (W : World) : Prop := W.cell? ⟨8, 0, none⟩ = some (.iface (ev 58).1 (ev 58).2) ∧ W.cell? ⟨9, 0, none⟩ = some (.iface (ev 59).1 (ev 59).2) ∧ W.cell? ⟨7, 0, none⟩ = some (.iface (ev 57).1 (ev 57).2) ∧ W.cell? ⟨1, 0, none⟩ = some (.iface (ev 51).1 (ev 51).2)
theorem ErrsF.below {ev : Nat → TypeId × Value} {W W' : World} (h : ErrsF ev W) (hb : Below W.heap.size W W') : ErrsF ev W' := by
 obtain ⟨h0, h1, h2, h3⟩ := h
 exact ⟨(hb.cell (World.block_lt_of_cell? W _ h0)).trans h0, (hb.cell (World.block_lt_of_cell? W _ h1)).trans h1, (hb.cell (World.block_lt_of_cell? W _ h2)).trans h2, (hb.cell (World.block_lt_of_cell? W _ h3)).trans h3⟩
def refV (ev : Nat → TypeId × Value) (k : Nat) (num : Int) : Value := .iface 69 (.agg #[.iface (ev k).1 (ev k).2, .int .i64 num])
def CanF (ev : Nat → TypeId × Value) (w : World) (ps : List PR) (num : Int) (n : Nat) (e : Ending) (w' : World) : Prop :=
 Below w.heap.size w w' ∧ ((num < 64 ∧ OkP ps ∧ ∃ ta tc, e = .returned (.tuple #[.slice ta n tc, .nilIface]) ∧ OwnS w' w.heap.size (.slice ta n tc) (ps.map fun p => tyC p.1)) ∨ (cer ps num ≠ 0 ∧ e = .returned (.tuple #[.slice none 0 0, refV ev (cer ps num) num])))
set_option maxHeartbeats 4000000 in
theorem canonical_typesF (ev : Nat → TypeId × Value) (a : Option Addr) (c n : Nat) (ps : List PR) (num : Int) (w : World) (hG : ErrsF ev w) (hn : ps.length = n) (hr : PRow w a ps) (hz : ∀ p ∈ ps, p.1.length + p.2.length ≤ 140737488355328) (hnb : n ≤ 140737488355328) :
  Calls Tryz.prog 39 #[.slice a n c, .int .i64 num] w fun e w' => CanF ev w ps num n e w' := by
 have nb : (n : Int) ≤ 140737488355328 := by omega
 have n0 : (0 : Int) ≤ (n : Int) := by omega
 have hn' : Hid (ps.length = n) := hn
 have hr' : Hid (PRow w a ps) := hr
 have hz' : Hid (∀ p ∈ ps, p.1.length + p.2.length ≤ 140737488355328) := hz
 have hG' : Hid (ErrsF ev w) := hG
 clear hr hz
 by_cases h64 : (64 : Int) ≤ num
 ·obtain ⟨g0, g1, g2, g3⟩ := hG
  have hno : Hid (cer ps num = 58) := by unfold Hid cer; rw [if_pos h64]
  clear hn hG' hr' hz' hn'
  go_enter Tryz.func39, Tryz.ntmps39
  go_wp2_with fail
  go_region
  go_wp2_with fail
  go_ret2
  exact ⟨below_drew _ _, Or.inr ⟨by rw [hno.out]; decide, by rw [hno.out]; rfl⟩⟩
 ·by_cases hz0 : n = 0
  ·subst hz0
   obtain ⟨g0, g1, g2, g3⟩ := hG
   have hno : Hid (cer ps num = 59) := by unfold Hid cer rerr; rw [if_neg h64, if_pos hn]
   clear hn hG' hr' hz' hn'
   go_enter Tryz.func39, Tryz.ntmps39
   go_wp2_with fail
   go_region
   go_wp2_with fail
   go_ret2
   exact ⟨below_drew _ _, Or.inr ⟨by rw [hno.out]; decide, by rw [hno.out]; rfl⟩⟩
  ·have nz : ¬ ((n : Int) = 0) := by omega
   by_cases hz8 : 8 < n
   ·have n8 : (8 : Int) < (n : Int) := by omega
    obtain ⟨g0, g1, g2, g3⟩ := hG
    have hno : Hid (cer ps num = 58) := by unfold Hid cer rerr; rw [if_neg h64, if_neg (by omega), if_pos (by omega)]
    clear hn hG' hr' hz' hn'
    go_enter Tryz.func39, Tryz.ntmps39
    go_wp2_with fail
    go_region
    go_wp2_with fail
    go_ret2
    exact ⟨below_drew _ _, Or.inr ⟨by rw [hno.out]; decide, by rw [hno.out]; rfl⟩⟩
   ·have n8 : ¬ (8 : Int) < (n : Int) := by omega
    have hlo : Hid (1 ≤ n ∧ n ≤ 8 ∧ num < 64) := ⟨by omega, by omega, by omega⟩
    clear hG hn hnb hz0 hz8
    go_enter Tryz.func39, Tryz.ntmps39
    go_wp2_with fail
    go_loopw [6, 39] (fun tv iv wr => ∃ (k : Nat) (ta : Option Addr) (tc : Nat), k ≤ n ∧ iv = .int .i64 (k : Int) ∧ tv = .slice ta k tc ∧ Hid ((∀ j, j < k → OkI ps j) ∧ OwnS wr w.heap.size (.slice ta k tc) ((ps.take k).map fun p => tyC p.1) ∧ Below w.heap.size w wr)) (fun _ iv _ => n - (intOf iv).toNat)
    case atStart => exact ⟨0, none, 0, Nat.zero_le _, rfl, rfl, fun j hj => by omega, ownS_nil _ _, Below.refl _ _⟩
    case round =>
     obtain ⟨k, ta, tc, hk, rfl, rfl, hR⟩ := hrel
     have k0 : (0 : Int) ≤ (k : Int) := Int.natCast_nonneg _
     by_cases hlt : k < n
     ·have k1 : (k : Int) < (n : Int) := Int.ofNat_lt.2 hlt
      have hkP : k < ps.length := by rw [hn'.out]; exact hlt
      obtain ⟨pb, po, rfl, c3, c4⟩ := prow_at (hr'.out.below pV_len hR.out.2.2) k hkP
      have hzk := hz'.out _ (List.getElem_mem hkP)
      have hIk : Hid (tyOk ps[k].1 = true → tyC ps[k].1 ∉ (ps.take k).map (fun p => tyC p.1) → utf ps[k].2 = true → OkI ps k) := fun h1 h2 h3 => ⟨hkP, h1, h2, h3⟩
      have hcer : Hid (cer ps num = rerr ps) := by have := hlo.out; unfold Hid cer; rw [if_neg (by omega)]
      have hcer59 : Hid (¬ tyOk ps[k].1 = true → cer ps num = 59) := fun h => by rw [hcer.out]; exact rer_ty (by rw [hn'.out]; exact hlo.out.1) (by rw [hn'.out]; exact hlo.out.2.1) k hkP hR.out.1 h
      have hcer57 : Hid (tyOk ps[k].1 = true → tyC ps[k].1 ∈ (ps.take k).map (fun p => tyC p.1) → cer ps num = 57) := fun h h' => by rw [hcer.out]; exact rer_in (by rw [hn'.out]; exact hlo.out.1) (by rw [hn'.out]; exact hlo.out.2.1) k hkP hR.out.1 h h'
      have hcer51 : Hid (tyOk ps[k].1 = true → tyC ps[k].1 ∉ (ps.take k).map (fun p => tyC p.1) → ¬ utf ps[k].2 = true → cer ps num = 51) := fun h h' h'' => by rw [hcer.out]; exact rer_ut (by rw [hn'.out]; exact hlo.out.1) (by rw [hn'.out]; exact hlo.out.2.1) k hkP hR.out.1 h h' h''
      have hIn : Hid (OkP ps → tyOk ps[k].1 = true ∧ tyC ps[k].1 ∉ (ps.take k).map (fun p => tyC p.1) ∧ utf ps[k].2 = true) := fun h => by obtain ⟨_, h1, h2, h3⟩ := h.2.2 k hkP; exact ⟨h1, h2, h3⟩
      have hsn : Hid ((ps.take (k + 1)).map (fun p => tyC p.1) = (ps.take k).map (fun p => tyC p.1) ++ [tyC ps[k].1]) := by unfold Hid; rw [List.take_succ_eq_append_getElem hkP, List.map_append]; rfl
      generalize ps[k] = p at *
      obtain ⟨t, v⟩ := p
      dsimp only at c3 c4 hzk hIk hIn hsn hcer59 hcer57 hcer51
      generalize hT : (ps.take k).map (fun p => tyC p.1) = T at *
      have hTl : Hid (T.length = k) := by unfold Hid; rw [← hT, List.length_map, List.length_take]; omega
      obtain ⟨W1, hW1⟩ : ∃ W1, wr.alloc (.cells #[.string (S t), .string (S v)] 64) = W1 := ⟨_, rfl⟩
      have hb1 : Hid (Below wr.heap.size wr W1) := by unfold Hid; rw [← hW1]; exact (Below.refl _ _).alloc (Nat.le_refl _) _
      have hx1 : Hid (W1.heap[wr.heap.size]? = some (.cells #[.string (S t), .string (S v)] 64 (0, 0))) := by unfold Hid; rw [← hW1]; exact heap_alloc_new _ _
      have hP : Hid (Calls Tryz.prog 51 #[.string (S t)] W1 fun e w' => (∃ m : Nat, e = .returned (.tuple #[.string (S (tyC t)), .int .i64 (if tyOk t = true then 0 else 40), .int .i64 (m : Int)])) ∧ Below W1.heap.size W1 w') := parse_ty t W1 (by omega)
      have hC : Hid (∀ W, Row W ta T → Calls Tryz.prog 69 #[.slice ta k tc, .string (S (tyC t))] W fun r w' => r = .returned (.bool (decide (tyC t ∈ T))) ∧ w' = W) := fun W h => contains_any T (tyC t) ta tc k W h hTl.out (by have := hlo.out; omega)
      have hK : Hid (∀ W, Calls Tryz.prog 29 #[.string (S v)] W fun e w' => (∃ m : Nat, e = .returned (.tuple #[.int .i64 (if utf v = true then 0 else 10), .int .i64 (m : Int)])) ∧ w' = W) := fun W => check_ty v W (by omega)
      have hlt' : Hid (k < n) := hlt
      have hk8 : Hid (k ≤ 8) := by have := hlo.out; unfold Hid; omega
      obtain ⟨st, hst⟩ : ∃ st, S t = st := ⟨_, rfl⟩
      obtain ⟨sv', hsv⟩ : ∃ sv', S v = sv' := ⟨_, rfl⟩
      rw [hst] at c3 hW1 hx1 hP
      rw [hsv] at c4 hW1 hx1 hK
      clear hst hsv hzk hkP hlt hk
      have c1 : W1.cell? ⟨wr.heap.size, 0, none⟩ = some (.string st) := by rw [cell_of_row _ _ _ _ _ _ hx1.out]; rfl
      go_wp2_with fail
      refine hP.out.mono ?_
      rintro e W2 ⟨⟨m2, rfl⟩, hb2⟩
      have hb2' : Hid (Below W1.heap.size W1 W2) := hb2
      have hx2 : W2.heap[wr.heap.size]? = some (.cells #[.string st, .string sv'] 64 (0, 0)) := by rw [hb2.block _ (Array.getElem?_eq_some_iff.1 hx1.out).1]; exact hx1.out
      have c5 : W2.cell? ⟨wr.heap.size, 1, none⟩ = some (.string sv') := by rw [cell_of_row _ _ _ _ _ _ hx2]; rfl
      have hB2 : Hid (Below wr.heap.size wr W2) := hb1.out.trans (hb2.mono hb1.out.size)
      have hBw : Hid (Below w.heap.size w W2) := hR.out.2.2.trans (hB2.out.mono hR.out.2.2.size)
      have hG2 := hG'.out.below hBw.out
      have hO2 : Hid (OwnS W2 w.heap.size (.slice ta k tc) T) := ownS_below hR.out.2.1 hB2.out
      clear hb2 hx2 hP hx1 hb1 hb2' hB2
      obtain ⟨g0, g1, g2, g3⟩ := hG2
      by_cases hty : tyOk t = true
      ·rw [if_pos hty]
       have hC2 : Hid (Calls Tryz.prog 69 #[.slice ta k tc, .string (S (tyC t))] W2 fun r w' => r = .returned (.bool (decide (tyC t ∈ T))) ∧ w' = W2) := hC.out W2 (ownS_row hO2.out).1
       by_cases hin : tyC t ∈ T
       ·have hno : Hid (cer ps num = 57) := hcer57.out hty hin
        rw [decide_eq_true hin] at hC2
        clear hIn hIk hC hin hty hR hO2 hsn hTl hT
        go_wp2_with (go_at_call 69; refine hC2.out.mono ?_; rintro e w' ⟨rfl, rfl⟩)
        go_region
        go_wp2_with fail
        go_ret2
        exact ⟨hBw.out.trans (below_drew _ _), Or.inr ⟨by rw [hno.out]; decide, by rw [hno.out]; rfl⟩⟩
       ·rw [decide_eq_false hin] at hC2
        have hK2 : Hid (Calls Tryz.prog 29 #[.string sv'] W2 fun e w' => (∃ m : Nat, e = .returned (.tuple #[.int .i64 (if utf v = true then 0 else 10), .int .i64 (m : Int)])) ∧ w' = W2) := hK.out W2
        clear hC hK
        by_cases hut : utf v = true
        ·rw [if_pos hut] at hK2
         have hok : Hid (OkI ps k) := hIk.out hty hin hut
         obtain ⟨v3, W3, e3', o3, b3⟩ := append_row (W2.alloc (.cells #[.string (S (tyC t))] 9)) w.heap.size (.slice ta k tc) T [tyC t] (some ⟨W2.heap.size, 0, none⟩) 1 1 (ownS_below hO2.out ((Below.refl _ _).alloc (Nat.le_refl _) _)) (row_one _ _) rfl (by have := hBw.out.size; simp; omega) (by have := hTl.out; have := hk8.out; simp; omega)
         obtain ⟨ta', tc', rfl, _⟩ : ∃ ta' tc', v3 = .slice ta' (k + 1) tc' ∧ True := by
          have hl3 : (T ++ [tyC t]).length = k + 1 := by rw [List.length_append, hTl.out]; rfl
          rcases ownS_formD o3 with ⟨_, h0⟩ | ⟨g, cap, e, _⟩
          ·rw [h0] at hl3; simp at hl3
          ·exact ⟨_, _, by rw [e, hl3], trivial⟩
         have hfin : Hid ((∀ j, j < k + 1 → OkI ps j) ∧ OwnS W3 w.heap.size (.slice ta' (k + 1) tc') ((ps.take (k + 1)).map fun p => tyC p.1) ∧ Below w.heap.size w W3) := by
          refine ⟨fun j hj => ?_, by rw [hsn.out]; exact o3, (hBw.out.alloc hBw.out.size _).trans b3⟩
          by_cases e : j = k
          ·rw [e]; exact hok.out
          ·exact hR.out.1 j (by omega)
         clear o3 b3 hIn hIk hok hR hO2 hsn hTl hT hty hin hut hBw
         go_wp2_with (first
          | (go_at_call 69; refine hC2.out.mono ?_; rintro e w' ⟨rfl, rfl⟩)
          | (go_at_call 29; refine hK2.out.mono ?_; rintro e w' ⟨⟨m3, rfl⟩, rfl⟩)
          | (at_builtin; refine Lib.wpList_append_run _ rfl _ _ _ _ rfl _ _ rfl rfl _ _ e3' ?_; clear e3'))
         go_roundw
         case rel => exact ⟨k + 1, ta', tc', hlt'.out, by go_num, rfl, hfin⟩
         case measure => have := hlt'.out; simp [intOf]; omega
        ·rw [if_neg hut] at hK2
         have hno : Hid (cer ps num = 51) := hcer51.out hty hin hut
         clear hIn hIk hin hty hR hO2 hsn hTl hT hut
         go_wp2_with (first
          | (go_at_call 69; refine hC2.out.mono ?_; rintro e w' ⟨rfl, rfl⟩)
          | (go_at_call 29; refine hK2.out.mono ?_; rintro e w' ⟨⟨m3, rfl⟩, rfl⟩))
         go_region
         go_wp2_with fail
         go_ret2
         exact ⟨hBw.out.trans (below_drew _ _), Or.inr ⟨by rw [hno.out]; decide, by rw [hno.out]; rfl⟩⟩
      ·rw [if_neg hty]
       have hno : Hid (cer ps num = 59) := hcer59.out hty
       clear hIn hIk hC hK hty hR hO2 hsn hTl hT
       go_wp2_with fail
       go_region
       go_wp2_with fail
       go_ret2
       exact ⟨hBw.out.trans (below_drew _ _), Or.inr ⟨by rw [hno.out]; decide, by rw [hno.out]; rfl⟩⟩
     ·have e : n = k := by omega
      subst e
      have i1 : ¬ (n : Int) < (n : Int) := by omega
      have hfin : Hid (CanF ev w ps num n (.returned (.tuple #[.slice ta n tc, .nilIface])) wr) := by
       refine ⟨hR.out.2.2, Or.inl ⟨hlo.out.2.2, ⟨by rw [hn'.out]; exact hlo.out.1, by rw [hn'.out]; exact hlo.out.2.1, fun i hi => hR.out.1 i (by rw [← hn'.out]; exact hi)⟩, ta, tc, rfl, ?_⟩⟩
       have := hR.out.2.1
       rw [List.take_of_length_le (by rw [hn'.out]; exact Nat.le_refl _)] at this
       exact this
      clear hR hk hlt
      go_wp2_with fail
      go_ret2
      exact hfin.out
end Ke
end Go.Proofs.YtkknenmpdimdbaaGreatDoor

namespace Go.Proofs.YtkknenmpdimdbaaGreatDoor
namespace Ke
open Go.RowKit
set_option linter.unusedVariables false
set_option linter.unusedSimpArgs false
set_option maxRecDepth 100000
set_option maxHeartbeats 1000000 in
theorem among_any (c : UInt8) (s : ByteArray) (w : World) (hs : s.size ≤ 1048576) :
  Calls Tryz.prog 73 #[.int .u8 (c.toNat : Int), .string s] w fun e w' => e = .returned (.bool (s.data.toList.contains c)) ∧ w' = w := by
 have hL : Hid (s.data.toList.length = s.size) := size_l s
 obtain ⟨r, hr⟩ : ∃ r, s.data.toList.contains c = r := ⟨_, rfl⟩
 rw [hr]
 have hr' : Hid (s.data.toList.contains c = r) := hr
 clear hr
 go_enter Tryz.func73, Tryz.ntmps73
 go_wp2_with fail
 go_loop [5] (fun i => ∃ k : Nat, k ≤ s.size ∧ i = .int .i64 k ∧ Hid (¬ c ∈ s.data.toList.take k)) (fun i => s.size - (intOf i).toNat)
 case atStart => exact ⟨0, Nat.zero_le _, rfl, by unfold Hid; simp⟩
 case round =>
  obtain ⟨k, hk, rfl, hR⟩ := hrel
  have k0 : (0 : Int) ≤ (k : Int) := Int.natCast_nonneg _
  by_cases hlt : k < s.size
  ·have k1 : (k : Int) < (s.size : Int) := Int.ofNat_lt.2 hlt
   have hsn := take_snoc s k hlt
   have hmem : Hid (s[k] ∈ s.data.toList) := by
    have : s[k] = s.data.toList[k]'(by rw [hL.out]; exact hlt) := rfl
    unfold Hid
    rw [this]
    exact List.getElem_mem _
   obtain ⟨b, hb⟩ : ∃ b, s[k] = b := ⟨_, rfl⟩
   rw [hb] at hsn hmem
   have hbq := u8_beq b c
   by_cases e : b = c
   ·have hfin : Hid (r = true) := by
     unfold Hid
     rw [← hr'.out, List.contains_iff_mem, ← e]
     exact hmem.out
    rw [e, beq_self_eq_true] at hbq
    have hbq' := hbq.symm
    subst e
    clear hsn hmem hR hbq
    go_wp2_with fail
    go_ret
    exact ⟨by rw [hfin.out]; rfl, rfl⟩
   ·have hfin : Hid (¬ c ∈ s.data.toList.take (k + 1)) := by
     unfold Hid
     rw [hsn, List.mem_append]
     rintro (h | h)
     ·exact hR.out h
     ·exact e (List.mem_singleton.1 h).symm
    have hbq' : ((b.toNat : Int) == (c.toNat : Int)) = false := by rw [← hbq]; simpa using e
    clear hsn hmem hR hbq e
    go_wp2_with fail
    go_round
    case rel => exact ⟨k + 1, hlt, by go_num, hfin⟩
    case measure => simp [intOf]; omega
  ·have e : k = s.size := by omega
   subst e
   have i1 : ¬ (s.size : Int) < (s.size : Int) := by omega
   have hfin : Hid (r = false) := by
    have h := hR.out
    rw [List.take_of_length_le (by rw [hL.out]; exact Nat.le_refl _)] at h
    unfold Hid
    rw [← hr'.out, ← Bool.not_eq_true, List.contains_iff_mem]
    exact h
   clear hR
   go_wp2_with fail
   go_ret
   exact ⟨by rw [hfin.out]; rfl, rfl⟩
theorem mst_edge (n i : Nat) (c : UInt8) : mst n i c = (((decide (i = 0) && (c == 32 || c == 35)) || (decide (i + 1 = n) && c == 32)) || ([92, 34, 43, 44, 59, 60, 62] : List UInt8).contains c) := by
 unfold mst
 simp only [List.contains_cons, List.contains_nil]
 have e1 : (i == 0) = decide (i = 0) := by by_cases h : i = 0 <;> simp [h]
 have e2 : (i + 1 == n) = decide (i + 1 = n) := by by_cases h : i + 1 = n <;> simp [h]
 rw [e1, e2]
 cases decide (i = 0) <;> cases decide (i + 1 = n) <;> cases (c == 32) <;> cases (c == 35) <;> cases (c == 92) <;> cases (c == 34) <;> cases (c == 43) <;> cases (c == 44) <;> cases (c == 59) <;> cases (c == 60) <;> cases (c == 62) <;> rfl
theorem bytes_lie (w : World) (vs : List UInt8) : ∀ j u, (bv vs)[j]? = some u → (w.alloc (.cells (bv vs).toArray 5)).cell? ((⟨w.heap.size, 0, none⟩ : Addr).add j) = some u := fun j u h => by
 rw [add_off, Nat.zero_add]
 have h1 : (w.alloc (.cells (bv vs).toArray 5)).heap[w.heap.size]? = some (.cells (bv vs).toArray 5 (0, 0)) := heap_alloc_new _ _
 rw [cell_of_row _ _ _ _ _ _ h1]
 simpa using h
theorem append_bytes (w : World) (B : Nat) (v : Value) (l vs : List UInt8) (hown : Own w B v l) (hB : B ≤ w.heap.size) (hl : l.length + vs.length ≤ 1099511627776) (hv : 0 < vs.length) :
  ∃ g cap w', (Builtin.append_ #[87, 87] 87 #[v, .slice (some ⟨w.heap.size, 0, none⟩) vs.length vs.length]).run Tryz.prog (w.alloc (.cells (bv vs).toArray 5)) = .ok (.slice (some ⟨g, 0, none⟩) (l.length + vs.length) cap) w' ∧ Own w' B (.slice (some ⟨g, 0, none⟩) (l.length + vs.length) cap) (l ++ vs) ∧ Below B w w' := by
 obtain ⟨i0, hi, hz0, hz1, hz2⟩ := info_parts info_u8
 have hb1 : Below B w (w.alloc (.cells (bv vs).toArray 5)) := (Below.refl _ _).alloc hB _
 obtain ⟨g, cap, w', hr, h2, h3, _, _⟩ := run_append_lies (P := Tryz.prog) (w.alloc (.cells (bv vs).toArray 5)) 87 87 B 5 i0 _ 1 1 Tryz.underlying87 hi hz0 hz1 hz2 rfl (by decide) v l.length (bv l) (World.ownsRow.alloc hown _) ⟨w.heap.size, 0, none⟩ vs.length vs.length (bv vs) (by rw [bv_len]; omega) (bytes_lie w vs) (fun u hu => by
   simp only [bv, List.mem_map] at hu
   obtain ⟨b, _, rfl⟩ := hu
   rfl) hv (by unfold maxLen; omega) (by omega) (by simp; omega) _ rfl
 refine ⟨g, cap, w', hr, ?_, hb1.grown h3 (by simp; omega) (fun j hj => (World.ownsRow.lt (show w.ownsRow B 5 1 v l.length (bv l) from hown) _ hj).1)⟩
 unfold Own
 rw [bv_app, List.length_append]
 exact h2
end Ke
end Go.Proofs.YtkknenmpdimdbaaGreatDoor
