import Derived.Test.YtkknenmpdimdbaaGreatDoorPaX
import Derived.Test.YtkknenmpdimdbaaGreatDoorFW10
namespace Go.Proofs.YtkknenmpdimdbaaGreatDoor
namespace Pa
open Go.RowKit
open TextMath (fold lo normal check wo unhex)
open Ke (refV tyOk tyC utf PR parse_ty check_ty contains_any)
set_option linter.unusedVariables false
set_option linter.unusedSimpArgs false
set_option maxRecDepth 100000
def HxOk (hx : List UInt8 → Option VR) (ev : Nat → TypeId × Value) (s : ByteArray) (b : Nat) : Prop :=
 ∀ r R p W, hx r = some R → lf s p = r → p ≤ s.size → 0 < p → Rd W b s p → EvA ev W → Calls Tryz.prog 121 #[.pointer (some ⟨b, 0, none⟩)] W fun e w' => VQ ev s b p W R e w'
theorem VQ.wb {ev : Nat → TypeId × Value} {s : ByteArray} {b p q : Nat} {w w1 : World} {R : VR} {e : Ending} {w' : World} (h : VQ ev s b q w1 R e w') (hw : Wb b w w1) (hq : p ≤ q) : VQ ev s b p w R e w' := by
 rcases h with ⟨x, r, p', h1, h2, h3, h4, h5, h6, h7, h8⟩ | ⟨k, m, p', h1, h2, h3, h4, h5⟩
 ·exact Or.inl ⟨x, r, p', h1, h2, h3, by omega, h5, h6, h7, hw.trans h8⟩
 ·exact Or.inr ⟨k, m, p', h1, h2, h3, h4, hw.trans h5⟩
def chkV (m : Nat) : VR → VR
 | .error e => .error e
 | .ok x => if utf x.1 = true then .ok x else .error (51, m)
theorem chkV_ok {m : Nat} {x r : List UInt8} (h : utf x = true) : chkV m (.ok (x, r)) = .ok (x, r) := by simp [chkV, h]
theorem chkV_no {m : Nat} {x r : List UInt8} (h : ¬ utf x = true) : chkV m (.ok (x, r)) = .error (51, m) := by simp [chkV, h]
theorem pv_eq (hx : List UInt8 → Option VR) (l : List UInt8) : pv hx l = (if l.head? = some 35 then hx (l.drop 1) else some (tv (l.length + 1) l [] 0)).map (chkV l.length) := by
 unfold pv
 congr 1
theorem tv_fuel : ∀ (n m : Nat) (l a : List UInt8) (c : Nat), l.length < n → l.length < m → tv n l a c = tv m l a c
 | 0, _, _, _, _, h, _ => by omega
 | _ + 1, 0, _, _, _, _, h => by omega
 | n + 1, m + 1, l, a, c, h1, h2 => by
  rw [tv_step, tv_step]
  by_cases h0 : kO l = 0
  ·rw [if_pos h0, if_pos h0]
  ·have hl : 1 ≤ l.length := by
    cases l with
    | nil => exact absurd rfl h0
    | cons x r => simp
   rw [tv_fuel n m (l.drop 3) _ _ (by rw [List.length_drop]; omega) (by rw [List.length_drop]; omega), tv_fuel n m (l.drop 2) _ _ (by rw [List.length_drop]; omega) (by rw [List.length_drop]; omega), tv_fuel n m (l.drop 1) _ _ (by rw [List.length_drop]; omega) (by rw [List.length_drop]; omega), tv_fuel n m (l.drop 1) _ c (by rw [List.length_drop]; omega) (by rw [List.length_drop]; omega)]
set_option maxHeartbeats 4000000 in
theorem pairValue_any (hx : List UInt8 → Option VR) (ev : Nat → TypeId × Value) (s : ByteArray) (p b : Nat) (w : World) (V : VR) (h : Rd w b s p) (hp : p ≤ s.size) (hs : s.size ≤ 4096) (hE : EvA ev w) (hH : HxOk hx ev s b) (hV : pv hx (lf s p) = some V) :
  Calls Tryz.prog 89 #[.pointer (some ⟨b, 0, none⟩)] w fun e w' => VQ ev s b p w V e w' := by
 obtain ⟨c0, c1, z1⟩ := h.cells
 have h' : Hid (Rd w b s p ∧ p ≤ s.size ∧ s.size ≤ 4096 ∧ EvA ev w ∧ HxOk hx ev s b) := ⟨h, hp, hs, hE, hH⟩
 obtain ⟨R, hR, hRV⟩ : ∃ R, (if (lf s p).head? = some 35 then hx ((lf s p).drop 1) else some (tv ((lf s p).length + 1) (lf s p) [] 0)) = some R ∧ V = chkV (lf s p).length R := by
  rw [pv_eq] at hV
  obtain ⟨R, h1, h2⟩ := Option.map_eq_some_iff.1 hV
  exact ⟨R, h1, h2.symm⟩
 have hR' : Hid ((if (lf s p).head? = some 35 then hx ((lf s p).drop 1) else some (tv ((lf s p).length + 1) (lf s p) [] 0)) = some R) := hR
 have hRV' : Hid (V = chkV (lf s p).length R) := hRV
 have hTk : Hid (Calls Tryz.prog 58 #[.pointer (some ⟨b, 0, none⟩), .int .u8 35] w fun e w' => TkQ 35 s p b w e w') := take_any 35 s p b w h hp hs
 clear h hp hs hE hH hV hR hRV
 go_enter Tryz.func89, Tryz.ntmps89
 go_wp2_with fail
 refine hTk.out.mono ?_
 rintro e w1 hq
 rcases hq with ⟨hh, hlt, rfl, hr1, hw1⟩ | ⟨hh, rfl, hr1, hw1⟩
 ·have hC : Hid (Calls Tryz.prog 121 #[.pointer (some ⟨b, 0, none⟩)] w1 fun e w' => VQ ev s b p w R e w') := by
   have h1 := hR'.out
   rw [if_pos hh, lf_drop] at h1
   exact (h'.out.2.2.2.2 _ R (p + 1) w1 h1 rfl (by omega) (by omega) hr1 (h'.out.2.2.2.1.wb h'.out.1 hw1)).mono fun e w' hv => hv.wb hw1 (by omega)
  clear hTk hh hlt hr1 hw1 c0 c1 z1
  go_wp2_with fail
  refine hC.out.mono ?_
  rintro e w2 hv
  rcases hv with ⟨x, r, p', hRe, rfl, hl, hpp, hps, hxl, hr2, hw2⟩ | ⟨k, m, p', hRe, rfl, hps, hr2, hw2⟩
  ·have hC2 : Hid (Calls Tryz.prog 29 #[.string (S x)] w2 fun e w' => (∃ m : Nat, e = .returned (.tuple #[.int .i64 (if utf x = true then 0 else 10), .int .i64 (m : Int)])) ∧ w' = w2) := check_ty x w2 (by omega)
   by_cases hu : utf x = true
   ·rw [if_pos hu] at hC2
    have hfin : Hid (VQ ev s b p w V (.returned (.tuple #[.string (S x), .nilIface])) w2) := Or.inl ⟨x, r, p', by rw [hRV'.out, hRe]; exact chkV_ok hu, rfl, hl, hpp, hps, hxl, hr2, hw2⟩
    clear hRe hl hpp hps hxl hr2 hw2 hu hC
    generalize S x = sx at *
    go_wp2_with (go_at_call 29; refine hC2.out.mono ?_; rintro e w' ⟨⟨m3, rfl⟩, rfl⟩)
    go_ret2
    exact hfin.out
   ·rw [if_neg hu] at hC2
    obtain ⟨et, het⟩ : ∃ et, ev 51 = et := ⟨_, rfl⟩
    have hgc : w2.cell? ⟨1, 0, none⟩ = some (.iface et.1 et.2) := by
     have h1 := (h'.out.2.2.2.1.wb h'.out.1 hw2) (51, 1) (by decide)
     rw [het] at h1
     exact h1
    have hql : (((s.size - (lf s p).length : Nat) : Int)) = (p : Int) := by rw [lf_len]; have := h'.out.2.1; omega
    have hfin : Hid (∀ i, VQ ev s b p w V (.returned (.tuple #[.string ⟨#[]⟩, .iface 69 (.agg #[.iface et.1 et.2, .int .i64 (p : Int)])])) (w2.drewN i)) := fun i => VQ.drew (Or.inr ⟨51, _, p', by rw [hRV'.out, hRe]; exact chkV_no hu, by rw [hql, ← het]; rfl, hps, hr2, hw2⟩) i
    clear hRe hl hpp hps hxl hr2 hw2 hu hC hql het
    generalize S x = sx at *
    go_wp2_with (go_at_call 29; refine hC2.out.mono ?_; rintro e w' ⟨⟨m3, rfl⟩, rfl⟩)
    go_quiet (fail)
    go_wp2_with fail
    go_ret2
    exact hfin.out _
  ·have hfin : Hid (VQ ev s b p w V (.returned (.tuple #[.string ⟨#[]⟩, refV ev k ((s.size - m : Nat) : Int)])) w2) := Or.inr ⟨k, m, p', by rw [hRV'.out, hRe]; rfl, rfl, hps, hr2, hw2⟩
   obtain ⟨t, u, hrv⟩ : ∃ t u, refV ev k ((s.size - m : Nat) : Int) = .iface t u := ⟨_, _, rfl⟩
   rw [hrv] at hfin ⊢
   clear hRe hps hr2 hw2 hrv hC
   go_wp2_with fail
   go_ret2
   exact hfin.out
 ·have hC : Hid (Calls Tryz.prog 120 #[.pointer (some ⟨b, 0, none⟩)] w1 fun e w' => VQ ev s b p w R e w') := by
   have h1 := hR'.out
   rw [if_neg hh] at h1
   injection h1 with h1
   have h2 := textValue_any ev s p b w1 hr1 h'.out.2.1 h'.out.2.2.1 (h'.out.2.2.2.1.wb h'.out.1 hw1)
   have e : tv (s.size + 1) (lf s p) [] 0 = R := by
    rw [← h1]
    exact tv_fuel _ _ _ _ _ (by rw [lf_len]; have := h'.out.2.1; omega) (by omega)
   rw [e] at h2
   exact h2.mono fun e w' hv => hv.wb hw1 (Nat.le_refl _)
  clear hTk hh hr1 hw1 c0 c1 z1
  go_wp2_with fail
  refine hC.out.mono ?_
  rintro e w2 hv
  rcases hv with ⟨x, r, p', hRe, rfl, hl, hpp, hps, hxl, hr2, hw2⟩ | ⟨k, m, p', hRe, rfl, hps, hr2, hw2⟩
  ·have hC2 : Hid (Calls Tryz.prog 29 #[.string (S x)] w2 fun e w' => (∃ m : Nat, e = .returned (.tuple #[.int .i64 (if utf x = true then 0 else 10), .int .i64 (m : Int)])) ∧ w' = w2) := check_ty x w2 (by omega)
   by_cases hu : utf x = true
   ·rw [if_pos hu] at hC2
    have hfin : Hid (VQ ev s b p w V (.returned (.tuple #[.string (S x), .nilIface])) w2) := Or.inl ⟨x, r, p', by rw [hRV'.out, hRe]; exact chkV_ok hu, rfl, hl, hpp, hps, hxl, hr2, hw2⟩
    clear hRe hl hpp hps hxl hr2 hw2 hu hC
    generalize S x = sx at *
    go_wp2_with (go_at_call 29; refine hC2.out.mono ?_; rintro e w' ⟨⟨m3, rfl⟩, rfl⟩)
    go_ret2
    exact hfin.out
   ·rw [if_neg hu] at hC2
    obtain ⟨et, het⟩ : ∃ et, ev 51 = et := ⟨_, rfl⟩
    have hgc : w2.cell? ⟨1, 0, none⟩ = some (.iface et.1 et.2) := by
     have h1 := (h'.out.2.2.2.1.wb h'.out.1 hw2) (51, 1) (by decide)
     rw [het] at h1
     exact h1
    have hql : (((s.size - (lf s p).length : Nat) : Int)) = (p : Int) := by rw [lf_len]; have := h'.out.2.1; omega
    have hfin : Hid (∀ i, VQ ev s b p w V (.returned (.tuple #[.string ⟨#[]⟩, .iface 69 (.agg #[.iface et.1 et.2, .int .i64 (p : Int)])])) (w2.drewN i)) := fun i => VQ.drew (Or.inr ⟨51, _, p', by rw [hRV'.out, hRe]; exact chkV_no hu, by rw [hql, ← het]; rfl, hps, hr2, hw2⟩) i
    clear hRe hl hpp hps hxl hr2 hw2 hu hC hql het
    generalize S x = sx at *
    go_wp2_with (go_at_call 29; refine hC2.out.mono ?_; rintro e w' ⟨⟨m3, rfl⟩, rfl⟩)
    go_quiet (fail)
    go_wp2_with fail
    go_ret2
    exact hfin.out _
  ·have hfin : Hid (VQ ev s b p w V (.returned (.tuple #[.string ⟨#[]⟩, refV ev k ((s.size - m : Nat) : Int)])) w2) := Or.inr ⟨k, m, p', by rw [hRV'.out, hRe]; rfl, rfl, hps, hr2, hw2⟩
   obtain ⟨t, u, hrv⟩ : ∃ t u, refV ev k ((s.size - m : Nat) : Int) = .iface t u := ⟨_, _, rfl⟩
   rw [hrv] at hfin ⊢
   clear hRe hps hr2 hw2 hrv hC
   go_wp2_with fail
   go_ret2
   exact hfin.out
end Pa
end Go.Proofs.YtkknenmpdimdbaaGreatDoor

namespace Go.Proofs.YtkknenmpdimdbaaGreatDoor
namespace Pa
open Go.RowKit
open TextMath (fold lo normal check wo unhex)
open Ke (refV tyOk tyC utf PR parse_ty check_ty contains_any)
set_option linter.unusedVariables false
set_option linter.unusedSimpArgs false
set_option maxRecDepth 100000
def PQ (ev : Nat → TypeId × Value) (s : ByteArray) (b p : Nat) (w : World) (R : VR) (e : Ending) (w' : World) : Prop :=
 (∃ t r p', R = .ok (t, r) ∧ e = .returned (.tuple #[.string (S t), .string (S (tyC t)), .nilIface]) ∧ lf s p' = r ∧ p ≤ p' ∧ p' ≤ s.size ∧ t.length ≤ 4096 ∧ tyOk t = true ∧ Rd w' b s p' ∧ Wb b w w') ∨
 (∃ k m p', R = .error (k, m) ∧ e = .returned (.tuple #[.string ⟨#[]⟩, .string ⟨#[]⟩, refV ev k ((s.size - m : Nat) : Int)]) ∧ p' ≤ s.size ∧ Rd w' b s p' ∧ Wb b w w')
theorem PQ.drew {ev : Nat → TypeId × Value} {s : ByteArray} {b p : Nat} {w : World} {R : VR} {e : Ending} {w' : World} (h : PQ ev s b p w R e w') (n : Nat) : PQ ev s b p w R e (w'.drewN n) := by
 rcases h with ⟨x, r, p', h1, h2, h3, h4, h5, h6, h7, h8, h9⟩ | ⟨k, m, p', h1, h2, h3, h4, h5⟩
 ·exact Or.inl ⟨x, r, p', h1, h2, h3, h4, h5, h6, h7, h8, h9.trans wb_drew⟩
 ·exact Or.inr ⟨k, m, p', h1, h2, h3, h4, h5.trans wb_drew⟩
theorem ehd : ∀ args W, (callFunc 119 args).run Tryz.prog W = .ok (.enter 119 args) W := enters_of Tryz.func119 (by kernel_rfl) rfl
theorem tw_tb (s : ByteArray) (p : Nat) : lf s (p + ((lf s p).takeWhile tb).length) = (lf s p).dropWhile tb := by
 rw [← lf_drop]
 generalize lf s p = l
 induction l with
 | nil => rfl
 | cons c l ih =>
  rw [List.takeWhile_cons, List.dropWhile_cons]
  split
  ·simpa using ih
  ·rfl
set_option maxHeartbeats 4000000 in
theorem pairType_any (ev : Nat → TypeId × Value) (s : ByteArray) (p b : Nat) (ta : Option Addr) (tn tc : Nat) (ts : List (List UInt8)) (w : World) (h : Rd w b s p) (hp : p ≤ s.size) (hs : s.size ≤ 4096) (hE : EvA ev w) (hT : ∀ W, Wb b w W → Row W ta ts) (hn : ts.length = tn) (hn8 : tn ≤ 8) :
  Calls Tryz.prog 88 #[.pointer (some ⟨b, 0, none⟩), .slice ta tn tc] w fun e w' => PQ ev s b p w (pt ts (lf s p)) e w' := by
 obtain ⟨c0, c1, z1⟩ := h.cells
 have h' : Hid (Rd w b s p ∧ p ≤ s.size ∧ s.size ≤ 4096 ∧ EvA ev w ∧ (∀ W, Wb b w W → Row W ta ts)) := ⟨h, hp, hs, hE, hT⟩
 have hn' : Hid (ts.length = tn ∧ tn ≤ 8) := ⟨hn, hn8⟩
 have hRw : Hid (Calls Tryz.prog 117 #[.pointer (some ⟨b, 0, none⟩), .func (.func 119) #[] #[]] w fun e w' => RwQ tb s p b w e w') := row_any tb _ ehd typeByte_any s p b w h hp hs
 obtain ⟨P, hP⟩ : ∃ P, pt ts (lf s p) = P := ⟨_, rfl⟩
 rw [hP]
 have hP' : Hid (pt ts (lf s p) = P) := hP
 clear h hp hs hE hT hP hn hn8
 go_enter Tryz.func88, Tryz.ntmps88
 go_wp2_with fail
 refine hRw.out.mono ?_
 rintro e w1 ⟨rfl, hr1, hl1, hw1⟩
 have hlf := tw_tb s p
 obtain ⟨t, ht⟩ : ∃ t, (lf s p).takeWhile tb = t := ⟨_, rfl⟩
 obtain ⟨p1, hp1⟩ : ∃ z, p + ((lf s p).takeWhile tb).length = z := ⟨_, rfl⟩
 have htl : t.length ≤ 4096 := by rw [← ht]; have := h'.out.2.2.1; omega
 rw [ht]
 have hpt := hP'.out
 unfold pt at hpt
 rw [ht] at hpt
 rw [hp1] at hr1 hl1 hlf
 have h1' : Hid (Rd w1 b s p1 ∧ p1 ≤ s.size ∧ Wb b w w1 ∧ p ≤ p1 ∧ lf s p1 = (lf s p).dropWhile tb ∧ t.length ≤ 4096) := ⟨hr1, hl1, hw1, by omega, hlf, htl⟩
 have hpt' : Hid ((if tyOk t = false then .error (52, (lf s p).length) else if tyC t ∈ ts then .error (57, (lf s p).length) else if (sp (List.dropWhile tb (lf s p))).head? = some 61 then .ok (t, sp ((sp (List.dropWhile tb (lf s p))).drop 1)) else .error (53, (sp (List.dropWhile tb (lf s p))).length)) = P) := hpt
 have hPT : Hid (Calls Tryz.prog 51 #[.string (S t)] w1 fun e w' => (∃ m : Nat, e = .returned (.tuple #[.string (S (tyC t)), .int .i64 (if tyOk t = true then 0 else 40), .int .i64 (m : Int)])) ∧ Below w1.heap.size w1 w') := parse_ty t w1 (by omega)
 have hql : Hid ((((s.size - (lf s p).length : Nat) : Int)) = (p : Int)) := by unfold Hid; rw [lf_len]; have := h'.out.2.1; omega
 clear hRw hr1 hl1 hw1 hlf ht hp1 htl hpt c0 c1 z1 hP'
 by_cases hok : tyOk t = true
 ·rw [if_pos hok] at hPT
  go_wp2_with fail
  refine hPT.out.mono ?_
  rintro e w2 ⟨⟨m2, rfl⟩, hb2⟩
  have hw2 : Wb b w w2 := h1'.out.2.2.1.trans (Wb.of_below hb2 (Nat.le_of_lt h1'.out.1.lt))
  have h2' : Hid (Rd w2 b s p1 ∧ Wb b w w2) := ⟨h1'.out.1.below hb2, hw2⟩
  have hCn : Hid (Calls Tryz.prog 69 #[.slice ta tn tc, .string (S (tyC t))] w2 fun r w' => r = .returned (.bool (decide (tyC t ∈ ts))) ∧ w' = w2) := contains_any ts (tyC t) ta tc tn w2 (h'.out.2.2.2.2 w2 hw2) hn'.out.1 (by have := hn'.out.2; omega)
  clear hPT hb2 hw2
  by_cases hin : tyC t ∈ ts
  ·rw [decide_eq_true hin] at hCn
   obtain ⟨et, het⟩ : ∃ et, ev 57 = et := ⟨_, rfl⟩
   have hgc : w2.cell? ⟨7, 0, none⟩ = some (.iface et.1 et.2) := by
    have h1 := (h'.out.2.2.2.1.wb h'.out.1 h2'.out.2) (57, 7) (by decide)
    rw [het] at h1
    exact h1
   have hfin : Hid (∀ i, PQ ev s b p w P (.returned (.tuple #[.string ⟨#[]⟩, .string ⟨#[]⟩, .iface 69 (.agg #[.iface et.1 et.2, .int .i64 (p : Int)])])) (w2.drewN i)) := fun i => PQ.drew (Or.inr ⟨57, _, p1, by rw [← hpt'.out, if_neg (by simp [hok]), if_pos hin], by rw [hql.out, ← het]; rfl, h1'.out.2.1, h2'.out.1, h2'.out.2⟩) i
   clear hok hpt' het hin h2'
   generalize S (tyC t) = sc at *
   generalize S t = st at *
   go_wp2_with (go_at_call 69; refine hCn.out.mono ?_; rintro r w' ⟨rfl, rfl⟩)
   go_quiet (fail)
   go_wp2_with fail
   go_ret3
   exact hfin.out _
  ·rw [decide_eq_false hin] at hCn
   have hpt2 : Hid ((if (sp (List.dropWhile tb (lf s p))).head? = some 61 then .ok (t, sp ((sp (List.dropWhile tb (lf s p))).drop 1)) else .error (53, (sp (List.dropWhile tb (lf s p))).length)) = P) := by
    have h1 := hpt'.out
    rw [if_neg (by simp [hok]), if_neg hin] at h1
    exact h1
   have hSk : Hid (Calls Tryz.prog 87 #[.pointer (some ⟨b, 0, none⟩)] w2 fun e w' => e = .returned (.tuple #[]) ∧ SkQ s p1 b w2 w') := skip_any s p1 b w2 h2'.out.1 h1'.out.2.1 h'.out.2.2.1
   have hok' : Hid (tyOk t = true ∧ t.length ≤ 4096) := ⟨hok, h1'.out.2.2.2.2.2⟩
   obtain ⟨st, hst⟩ : ∃ st, S t = st := ⟨_, rfl⟩
   obtain ⟨sc, hsc⟩ : ∃ sc, S (tyC t) = sc := ⟨_, rfl⟩
   have hss : Hid (S t = st ∧ S (tyC t) = sc) := ⟨hst, hsc⟩
   rw [hsc] at hCn
   rw [hst, hsc]
   clear hok hpt' hin hst hsc
   go_wp2_with (go_at_call 69; refine hCn.out.mono ?_; rintro r w' ⟨rfl, rfl⟩)
   refine hSk.out.mono ?_
   rintro e w3 ⟨rfl, p2, hl2, hp12, hp2s, hr3, hw3⟩
   have h3' : Hid (Rd w3 b s p2 ∧ Wb b w w3 ∧ p ≤ p2 ∧ p2 ≤ s.size ∧ lf s p2 = sp (List.dropWhile tb (lf s p))) := ⟨hr3, h2'.out.2.trans hw3, by have := h1'.out.2.2.2.1; omega, hp2s, by rw [hl2, h1'.out.2.2.2.2.1]⟩
   have hTk : Hid (Calls Tryz.prog 58 #[.pointer (some ⟨b, 0, none⟩), .int .u8 61] w3 fun e w' => TkQ 61 s p2 b w3 e w') := take_any 61 s p2 b w3 hr3 hp2s h'.out.2.2.1
   clear hl2 hp12 hp2s hr3 hw3 hSk hCn h2'
   go_wp2_with fail
   refine hTk.out.mono ?_
   rintro e w4 hq4
   rcases hq4 with ⟨hh, hlt, rfl, hr4, hw4⟩ | ⟨hh, rfl, hr4, hw4⟩
   ·have hSk2 : Hid (Calls Tryz.prog 87 #[.pointer (some ⟨b, 0, none⟩)] w4 fun e w' => e = .returned (.tuple #[]) ∧ SkQ s (p2 + 1) b w4 w') := skip_any s (p2 + 1) b w4 hr4 hlt h'.out.2.2.1
    have h4' : Hid ((lf s p2).head? = some 61 ∧ Wb b w w4) := ⟨hh, h3'.out.2.1.trans hw4⟩
    clear hTk hh hlt hr4 hw4
    go_wp2_with fail
    refine hSk2.out.mono ?_
    rintro e w5 ⟨rfl, p3, hl3, hp23, hp3s, hr5, hw5⟩
    have hfin : Hid (PQ ev s b p w P (.returned (.tuple #[.string st, .string sc, .nilIface])) w5) := by
     refine Or.inl ⟨t, lf s p3, p3, ?_, by rw [hss.out.1, hss.out.2], rfl, by have := h3'.out.2.2.1; omega, hp3s, hok'.out.2, hok'.out.1, hr5, h4'.out.2.trans hw5⟩
     rw [← hpt2.out, ← h3'.out.2.2.2.2, if_pos h4'.out.1, hl3, lf_drop]
    clear hSk2 hl3 hp23 hp3s hr5 hw5
    go_wp2_with fail
    go_ret3
    exact hfin.out
   ·obtain ⟨et, het⟩ : ∃ et, ev 53 = et := ⟨_, rfl⟩
    have hgc : w4.cell? ⟨3, 0, none⟩ = some (.iface et.1 et.2) := by
     have h1 := (h'.out.2.2.2.1.wb h'.out.1 (h3'.out.2.1.trans hw4)) (53, 3) (by decide)
     rw [het] at h1
     exact h1
    have hql2 : (((s.size - (lf s p2).length : Nat) : Int)) = (p2 : Int) := by rw [lf_len]; have := h3'.out.2.2.2.1; omega
    obtain ⟨d0, d1, d2⟩ := hr4.cells
    have hfin : Hid (∀ i, PQ ev s b p w P (.returned (.tuple #[.string ⟨#[]⟩, .string ⟨#[]⟩, .iface 69 (.agg #[.iface et.1 et.2, .int .i64 (p2 : Int)])])) (w4.drewN i)) := fun i => PQ.drew (Or.inr ⟨53, (lf s p2).length, p2, by rw [← hpt2.out, ← h3'.out.2.2.2.2, if_neg hh], by rw [hql2, ← het]; rfl, h3'.out.2.2.2.1, hr4, h3'.out.2.1.trans hw4⟩) i
    clear hTk hh hr4 hw4 het hql2
    go_wp2_with fail
    go_quiet (fail)
    go_wp2_with fail
    go_ret3
    exact hfin.out _
 ·rw [if_neg hok] at hPT
  obtain ⟨et, het⟩ : ∃ et, ev 52 = et := ⟨_, rfl⟩
  go_wp2_with fail
  refine hPT.out.mono ?_
  rintro e w2 ⟨⟨m2, rfl⟩, hb2⟩
  have hw2 : Wb b w w2 := h1'.out.2.2.1.trans (Wb.of_below hb2 (Nat.le_of_lt h1'.out.1.lt))
  have hgc : w2.cell? ⟨2, 0, none⟩ = some (.iface et.1 et.2) := by
   have h1 := (h'.out.2.2.2.1.wb h'.out.1 hw2) (52, 2) (by decide)
   rw [het] at h1
   exact h1
  have hfin : Hid (∀ i, PQ ev s b p w P (.returned (.tuple #[.string ⟨#[]⟩, .string ⟨#[]⟩, .iface 69 (.agg #[.iface et.1 et.2, .int .i64 (p : Int)])])) (w2.drewN i)) := fun i => PQ.drew (Or.inr ⟨52, _, p1, by rw [← hpt'.out, if_pos (by simpa using hok)], by rw [hql.out, ← het]; rfl, h1'.out.2.1, h1'.out.1.below hb2, hw2⟩) i
  clear hPT hok hb2 hw2 hpt' het
  generalize S (tyC t) = sc at *
  generalize S t = st at *
  go_wp2_with fail
  go_quiet (fail)
  go_wp2_with fail
  go_ret3
  exact hfin.out _
end Pa
end Go.Proofs.YtkknenmpdimdbaaGreatDoor

namespace Go.Proofs.YtkknenmpdimdbaaGreatDoor
namespace Du
open Go.RowKit
set_option linter.unusedVariables false
set_option maxRecDepth 100000
theorem ne_ava (c s : ByteArray) (W : World) :
  (binOp .neq 64 (.agg #[.string c, .string s]) (.agg #[.string c, .string s])).run Tryz.prog W = .ok (.bool false) W := by
 have hS : Tryz.prog.underlying 64 = some (.struct (Tryz.prog.fieldsOf 64)) := by kernel_rfl
 have hp : Tryz.prog.stoodInHeld 64 = false := by kernel_rfl
 rw [run_neq_struct, run_equalIn_struct _ _ _ _ _ hS hp]
 simp only [Program.fieldsOf, Tryz.underlying64]
 simp [Op.eqFields, go_sem]
set_option maxHeartbeats 1000000 in
theorem sameRDN_any (l : List PR) (n : Nat) (hn : l.length = n) (a b : Option Addr) (c d : Nat) (w : World) (hl : n ≤ 5864062014634) (h1 : PRow w a l) (h2 : PRow w b l) :
  Calls Tryz.prog 31 #[.slice a n c, .slice b n d] w fun e w' => e = .returned (.bool true) ∧ ∃ q, w' = w.drewN q := by
 have h1' : Hid (PRow w a l) := h1
 have h2' : Hid (PRow w b l) := h2
 have hn' : Hid (l.length = n) := hn
 have nb : (n : Int) ≤ 5864062014634 := by omega
 clear h1 h2 hn hl
 go_enter Tryz.func31, Tryz.ntmps31
 go_wp2_with fail
 go_loopw [5] (fun iv wr => ∃ i q : Nat, i ≤ n ∧ iv = .int .i64 (i : Int) ∧ Hid (wr = w.drewN q)) (fun iv _ => n - (intOf iv).toNat)
 case atStart => exact ⟨0, 0, Nat.zero_le _, rfl, rfl⟩
 case round =>
  obtain ⟨i, q, hi, rfl, hw⟩ := hrel
  have i0 : (0 : Int) ≤ (i : Int) := Int.natCast_nonneg _
  by_cases hlt : i < n
  ·have hil : i < l.length := by rw [hn'.out]; exact hlt
   obtain ⟨b1, o1, rfl, p1, p2⟩ := prow_at h1'.out i hil
   obtain ⟨b2, o2, rfl, q1, q2⟩ := prow_at h2'.out i hil
   have hE : ∀ a, wr.cell? a = w.cell? a := fun a => by rw [hw.out]; rfl
   rw [← hE] at p1 p2 q1 q2
   have i1 : (i : Int) < (n : Int) := Int.ofNat_lt.2 hlt
   generalize S l[i].1 = X at *
   generalize S l[i].2 = Y at *
   have hne := ne_ava X Y
   have hlt' : Hid (i < n) := hlt
   clear hE hil hlt hi
   go_wp2_with fail
   go_quiet (fail)
   go_wp2_with fail
   go_roundw
   case rel => exact ⟨i + 1, _, hlt'.out, by simp, by unfold Hid; rw [hw.out, World.drewN_drewN]⟩
   case measure => have := hlt'.out; simp [intOf]; omega
  ·have e : n = i := by omega
   subst e
   have k1 : ¬ (n : Int) < (n : Int) := by omega
   clear hlt hi
   go_wp2_with fail
   go_ret
   exact ⟨rfl, _, hw.out⟩
set_option maxHeartbeats 2000000 in
theorem sameDN_any (a b : Option Addr) (c d : Nat) (L M : List PX) (n : Nat) (w : World) (hL : L.length = n) (hM : M.length = n) (hl : n ≤ 5864062014634) (h1 : DRow w a L) (h2 : DRow w b M) (hs : sd L = sd M) (hz : ∀ r ∈ L, r.2.2.length ≤ 4398046510976) :
  Calls Tryz.prog 11 #[.slice a n c, .slice b n d] w fun e w' => e = .returned (.bool true) ∧ ∃ q, w' = w.drewN q := by
 have h1' : Hid (DRow w a L) := h1
 have h2' : Hid (DRow w b M) := h2
 have hs' : Hid (∀ i (h : i < L.length) (h' : i < M.length), L[i].2.2 = M[i].2.2) := fun i h h' => by
  have := congrArg (fun l => l[i]?) hs
  simpa [sd, h, h'] using this
 have hz' : Hid (∀ r ∈ L, r.2.2.length ≤ 4398046510976) := hz
 have hLM : Hid (L.length = n ∧ M.length = n) := ⟨hL, hM⟩
 have nb : (n : Int) ≤ 5864062014634 := by omega
 clear h1 h2 hs hz hL hM hl
 go_enter Tryz.func11, Tryz.ntmps11
 go_wp2_with fail
 go_loopw [5] (fun iv wr => ∃ i q : Nat, i ≤ n ∧ iv = .int .i64 (i : Int) ∧ Hid (wr = w.drewN q)) (fun iv _ => n - (intOf iv).toNat)
 case atStart => exact ⟨0, 0, Nat.zero_le _, rfl, rfl⟩
 case round =>
  obtain ⟨i, q, hi, rfl, hw⟩ := hrel
  have i0 : (0 : Int) ≤ (i : Int) := Int.natCast_nonneg _
  by_cases hlt : i < n
  ·have i1 : (i : Int) < (n : Int) := Int.ofNat_lt.2 hlt
   have hiL : i < L.length := by rw [hLM.out.1]; exact hlt
   have hiM : i < M.length := by rw [hLM.out.2]; exact hlt
   obtain ⟨b1, o1, rfl, c0⟩ := drow_at h1'.out i hiL
   obtain ⟨b2, o2, rfl, d0⟩ := drow_at h2'.out i hiM
   have r1 := (h1'.out.2 _ (List.getElem_mem hiL)).1
   have r2 := (h2'.out.2 _ (List.getElem_mem hiM)).1
   have hsi := hs'.out i hiL hiM
   have hzi := hz'.out _ (List.getElem_mem hiL)
   obtain ⟨⟨pa, pc, ps⟩, hx⟩ : ∃ x, L[i] = x := ⟨_, rfl⟩
   obtain ⟨⟨pa', pc', ps'⟩, hy⟩ : ∃ y, M[i] = y := ⟨_, rfl⟩
   rw [hx] at c0 r1 hsi hzi
   rw [hy] at d0 r2 hsi
   dsimp only at c0 r1 d0 r2 hsi hzi
   subst hsi
   have hE : ∀ a, wr.cell? a = w.cell? a := fun a => by rw [hw.out]; rfl
   obtain ⟨m, hm⟩ : ∃ m, ps.length = m := ⟨_, rfl⟩
   have hS : ∀ k, Hid (Calls Tryz.prog 31 #[.slice pa m pc, .slice pa' m pc'] (wr.drewN k) fun e w' => e = .returned (.bool true) ∧ ∃ m, w' = (wr.drewN k).drewN m) := fun k => by
    have hb : Below w.heap.size w (wr.drewN k) := by rw [hw.out]; exact drewN_below _ _ _ |>.trans (drewN_below _ _ _)
    exact sameRDN_any ps m hm pa pa' pc pc' _ (by omega) (r1.below pV_len hb) (r2.below pV_len hb)
   rw [← hE] at c0 d0
   rw [hm] at c0 d0
   have hlt' : Hid (i < n) := hlt
   clear hE hx hy hm r1 r2 hzi hiL hiM hlt hi
   go_upto_region 6 with fail
   go_quiet ((go_at_call 31; exact Calls.quiet_of (hS _).out))
   go_wp2_with fail
   go_roundw
   case rel => exact ⟨i + 1, _, hlt'.out, by simp, by unfold Hid; rw [hw.out, World.drewN_drewN]⟩
   case measure => have := hlt'.out; simp [intOf]; omega
  ·have e : n = i := by omega
   subst e
   have i1 : ¬ (n : Int) < (n : Int) := by omega
   clear hi hlt
   go_wp2_with fail
   go_ret
   exact ⟨rfl, _, hw.out⟩
end Du
end Go.Proofs.YtkknenmpdimdbaaGreatDoor
