import Derived.Test.YtkknenmpdimdbaaGreatDoorFW25
import Derived.RangeFuncNested
import Derived.RangeFuncBound
import Derived.RangeFuncCalls
import Derived.RangeFuncLeaves
import Derived.RangeFuncBox
import Derived.Shelf.Abstract
import Derived.Shelf.RegionOpen
import Derived.WalkKit
import Derived.OwnWalkIn
import Derived.TacticsInMore
import Derived.LoopNIn
import Derived.LoopIn
import Derived.OrdersHeld
import Derived.Test.YtkknenmpdimdbaaGreatDoorBytes
import Derived.Test.YtkknenmpdimdbaaGreatDoorFW8
import Derived.Deep.OwnRows
namespace Go.Proofs.YtkknenmpdimdbaaGreatDoor
namespace Pa
open Go.RowKit
open TextMath (fold lo normal check wo unhex)
open Ke (refV tyOk tyC utf PR check_ty)
open Du (GOwn GRow Kd append_gen KDp KDx pV pV_len xV xV_len owns_same owns_apart owns_base PX DRow sd)
set_option linter.unusedVariables false
set_option linter.unusedSimpArgs false
set_option maxRecDepth 100000
theorem nm_inv {hx : List UInt8 → Option VR} {m : Nat} {D : List (List PR)} {l : List UInt8} {R : DRs} (h : nmP hx (m + 1) D l = some R) :
  ∃ P : PRs, prt hx 9 D.length [] l = some P ∧ ((∃ e, P = .error e ∧ R = .error e) ∨ (∃ x : List PR × List UInt8, P = .ok x ∧ ((x.2.head? = some 44 ∧ nmP hx m (D ++ [x.1]) (x.2.drop 1) = some R) ∨ (x.2.head? ≠ some 44 ∧ R = .ok (D ++ [x.1]))))) := by
 unfold nmP at h
 cases hp : prt hx 9 D.length [] l with
 | none => rw [hp] at h; cases h
 | some P =>
  rw [hp] at h
  refine ⟨P, rfl, ?_⟩
  cases P with
  | error e => injection h with h; exact Or.inl ⟨e, rfl, h.symm⟩
  | ok x =>
   dsimp only at h
   refine Or.inr ⟨x, rfl, ?_⟩
   by_cases hh : x.2.head? = some 44
   ·rw [if_pos hh] at h
    exact Or.inl ⟨hh, h⟩
   ·rw [if_neg hh] at h
    injection h with h
    exact Or.inr ⟨hh, h.symm⟩
def NI (b : Nat) (s : ByteArray) (q : Nat) (v : Value) (Ls : List PX) (w W : World) : Prop :=
 GOwn 57 1 xV W w.heap.size v Ls ∧ (∀ r ∈ Ls, GOwn 64 2 pV W w.heap.size (.slice r.1 r.2.2.length r.2.1) r.2.2) ∧ Rd W b s q ∧ Wb b w W ∧ b < w.heap.size
variable {b q q' : Nat} {s : ByteArray} {v : Value} {Ls : List PX} {w W W' : World}
theorem NI.wb (h : NI b s q v Ls w W) (hw : Wb b W W') (hr : Rd W' b s q') : NI b s q' v Ls w W' :=
 ⟨owns_wb (show W.ownsRow _ _ _ _ _ _ from h.1) hw h.2.2.2.2, fun r hr => owns_wb (show W.ownsRow _ _ _ _ _ _ from h.2.1 r hr) hw h.2.2.2.2, hr, h.2.2.2.1.trans hw, h.2.2.2.2⟩
theorem NI.drow (h : NI b s q v Ls w W) {va : Option Addr} {n c : Nat} (hv : v = .slice va n c) : DRow W va Ls ∧ n = Ls.length := by
 obtain ⟨a, c', e, _, _, hr⟩ := h.1.row xV_len
 rw [hv] at e
 injection e with e1 e2 e3
 subst e1
 refine ⟨⟨hr, fun r hr => ?_⟩, e2⟩
 obtain ⟨a2, c2, f, g1, g2, g3⟩ := (h.2.1 r hr).row pV_len
 injection f with f1 _ f3
 rw [← f1] at g3
 rw [← f3] at g1 g2
 exact ⟨g3, g1, g2⟩
theorem NI.part (h : NI b s q v Ls w W) (xa : Option Addr) (xc : Nat) (ps : List PR) (ho : GOwn 64 2 pV W w.heap.size (.slice xa ps.length xc) ps) (hl : Ls.length ≤ 64) :
  ∃ va n c w', (Builtin.append_ #[23, 23] 23 #[v, .slice (some ⟨W.heap.size, 0, none⟩) 1 1]).run Tryz.prog (W.alloc (.cells #[.slice xa ps.length xc] 57)) = .ok (.slice va n c) w' ∧ NI b s q (.slice va n c) (Ls ++ [((xa, xc, ps) : PX)]) w w' ∧ n = Ls.length + 1 := by
 obtain ⟨h1, h2, h3, h4, h5⟩ := h
 have hsz : w.heap.size ≤ W.heap.size := h4.size
 have ba : Below W.heap.size W (W.alloc (.cells #[.slice xa ps.length xc] 57)) := (Below.refl _ _).alloc (Nat.le_refl _) _
 obtain ⟨v1, w1, e1, o1, g1, b1⟩ := append_gen KDx (W.alloc (.cells #[.slice xa ps.length xc] 57)) w.heap.size v Ls [((xa, xc, ps) : PX)] (some ⟨W.heap.size, 0, none⟩) 1 1 (h1.below ba) (GRow.one xV W 57 ((xa, xc, ps) : PX)) rfl (Nat.le_trans hsz ba.size) (by simp; omega)
 obtain ⟨va, c, rfl, _⟩ := o1.row xV_len
 have keep : ∀ {u : Value} {l : List PR}, GOwn 64 2 pV W w.heap.size u l → GOwn 64 2 pV w1 w.heap.size u l := fun {u l} hu => by
  have hua := hu.below ba
  exact owns_same (show World.ownsRow _ _ _ _ _ _ _ from hua) (fun g hg => g1.block g (World.ownsRow.lt (show World.ownsRow _ _ _ _ _ _ _ from hua) g hg).2 (fun e => owns_apart (show World.ownsRow _ _ 64 _ _ _ _ from hua) (show World.ownsRow _ _ 57 _ _ _ _ from h1.below ba) (by decide) hg e.symm))
 have bw1 : Below w.heap.size W w1 := (ba.mono hsz).trans b1
 refine ⟨va, _, c, w1, e1, ⟨o1, fun r hr => ?_, h3.of (bw1.block b h5), ⟨h4.1.trans (bw1.mono (Nat.le_of_lt h5)), fun k hk hkb => by rw [bw1.block k hk]; exact h4.2 k hk hkb⟩, h5⟩, by simp⟩
 rcases List.mem_append.1 hr with hr | hr
 ·exact keep (h2 r hr)
 ·rw [List.mem_singleton] at hr
  subst hr
  exact keep ho
def NQ (ev : Nat → TypeId × Value) (s : ByteArray) (b : Nat) (w : World) (R : DRs) (e : Ending) (w' : World) : Prop :=
 (∃ D va c Ls, R = .ok D ∧ e = .returned (.tuple #[.slice va D.length c, .nilIface]) ∧ DRow w' va Ls ∧ sd Ls = D ∧ Wb b w w') ∨
 (∃ k m, R = .error (k, m) ∧ e = .returned (.tuple #[.slice none 0 0, refV ev k ((s.size - m : Nat) : Int)]) ∧ Wb b w w')
set_option maxHeartbeats 8000000 in
theorem name_any (hx : List UInt8 → Option VR) (ev : Nat → TypeId × Value) (s : ByteArray) (p b : Nat) (w : World) (R : DRs) (h : Rd w b s p) (hp : p ≤ s.size) (hs : s.size ≤ 4096) (hE : EvA ev w) (hH : HxOk hx ev s b) (hR : nmP hx 65 [] (lf s p) = some R) :
  Calls Tryz.prog 30 #[.pointer (some ⟨b, 0, none⟩)] w fun e w' => NQ ev s b w R e w' := by
 have h' : Hid (Rd w b s p ∧ s.size ≤ 4096 ∧ EvA ev w ∧ HxOk hx ev s b) := ⟨h, hs, hE, hH⟩
 have h0 : Hid (NI b s p (.slice none 0 0) [] w w ∧ nmP hx 65 [] (lf s p) = some R ∧ p ≤ s.size) := ⟨⟨GOwn.nil _ _ _ _ _, (fun r hr => by cases hr), h, Wb.refl _ _, h.lt⟩, hR, hp⟩
 clear h hp hs hE hH hR
 go_enter Tryz.func30, Tryz.ntmps30
 go_wp2_with fail
 go_loopw [4] (fun xv wr => ∃ (q k n c : Nat) (va : Option Addr) (Ls : List PX), xv = .slice va n c ∧ Hid (NI b s q (.slice va n c) Ls w wr ∧ n = Ls.length ∧ n + k = 65 ∧ q ≤ s.size ∧ nmP hx k (sd Ls) (lf s q) = some R)) (fun _ wr => s.size - plc b wr)
 case atStart => exact ⟨p, 65, 0, 0, none, [], rfl, h0.out.1, rfl, rfl, h0.out.2.2, h0.out.2.1⟩
 case round =>
  obtain ⟨q, k, n, c, va, Ls, rfl, hQ⟩ := hrel
  clear h0
  have n0 : (0 : Int) ≤ (n : Int) := Int.natCast_nonneg _
  have n8 : (n : Int) ≤ 65 := by have := hQ.out.2.2.1; omega
  obtain ⟨f, rfl⟩ : ∃ f, k = f + 1 := by
   cases k with
   | zero => have := hQ.out.2.2.2.2; cases this
   | succ f => exact ⟨f, rfl⟩
  obtain ⟨P, hP, hPc⟩ := nm_inv hQ.out.2.2.2.2
  have hPc' : Hid ((∃ e, P = .error e ∧ R = .error e) ∨ (∃ x : List PR × List UInt8, P = .ok x ∧ ((x.2.head? = some 44 ∧ nmP hx f (sd Ls ++ [x.1]) (x.2.drop 1) = some R) ∨ (x.2.head? ≠ some 44 ∧ R = .ok (sd Ls ++ [x.1]))))) := hPc
  have hplc : Hid (plc b wr = q) := plc_eq hQ.out.1.2.2.1
  have hpt : Hid (Calls Tryz.prog 57 #[.pointer (some ⟨b, 0, none⟩), .int .i64 (n : Int)] wr fun e w' => PrQ ev s b q wr P e w') :=
   part_any hx ev s q b n 9 wr P hQ.out.1.2.2.1 hQ.out.2.2.2.1 h'.out.2.1 (h'.out.2.2.1.wb h'.out.1 hQ.out.1.2.2.2.1) h'.out.2.2.2 (by rw [Du.sd_len, ← hQ.out.2.1] at hP; exact hP) (by have := hQ.out.2.2.1; omega)
  clear hP hPc
  go_wp2_with fail
  refine hpt.out.mono ?_
  rintro e w1 hp1
  rcases hp1 with ⟨ps, r, q1, xa, xc, v7, hPe, rfl, hI, hl1, hq1, hq1s, hp8⟩ | ⟨k1, m1, q1, hPe, rfl, hq1s, hr1, hw1⟩
  ·have hmore : Hid ((r.head? = some 44 ∧ nmP hx f (sd Ls ++ [ps]) (r.drop 1) = some R) ∨ (r.head? ≠ some 44 ∧ R = .ok (sd Ls ++ [ps]))) := by
    rcases hPc'.out with ⟨e, h1, h2⟩ | ⟨y, h1, h2⟩
    ·rw [hPe] at h1; cases h1
    ·rw [hPe] at h1
     injection h1 with h1
     subst h1
     exact h2
   have hN1 : Hid (NI b s q1 (.slice va n c) Ls w w1 ∧ q ≤ q1 ∧ q1 ≤ s.size ∧ lf s q1 = r ∧ n = Ls.length ∧ n + (f + 1) = 65) := ⟨hQ.out.1.wb hI.2.2.2.1 hI.2.2.1, hq1, hq1s, hl1, hQ.out.2.1, hQ.out.2.2.1⟩
   obtain ⟨ya, yn, yc, w2, e2, hN2, hyn⟩ := hN1.out.1.part xa xc ps (owns_base hI.1 hQ.out.1.2.2.2.1.size) (by have := hN1.out.2.2.2.2.1; have := hN1.out.2.2.2.2.2; omega)
   have hN2' : Hid (NI b s q1 (.slice ya yn yc) (Ls ++ [((xa, xc, ps) : PX)]) w w2 ∧ yn = Ls.length + 1) := ⟨hN2, hyn⟩
   have hsd : Hid (sd (Ls ++ [((xa, xc, ps) : PX)]) = sd Ls ++ [ps]) := by unfold Hid; simp [sd]
   have hTk : Hid (Calls Tryz.prog 58 #[.pointer (some ⟨b, 0, none⟩), .int .u8 44] w2 fun e w' => TkQ 44 s q1 b w2 e w') := take_any 44 s q1 b w2 hN2.2.2.1 hq1s h'.out.2.1
   obtain ⟨pn, hpn⟩ : ∃ z, ps.length = z := ⟨_, rfl⟩
   rw [hpn] at e2 ⊢
   clear hPe hI hl1 hq1 hq1s hp8 hN2 hyn hpn hQ hpt hPc'
   go_wp2_with (at_builtin; refine Lib.wpList_append_run _ rfl _ _ _ _ rfl _ _ rfl rfl _ _ e2 ?_; clear e2)
   refine hTk.out.mono ?_
   rintro e w3 hq3
   rcases hq3 with ⟨hh, hlt, rfl, hr3, hw3⟩ | ⟨hh, rfl, hr3, hw3⟩
   ·have hfin : Hid (NI b s (q1 + 1) (.slice ya yn yc) (Ls ++ [((xa, xc, ps) : PX)]) w w3 ∧ yn = (Ls ++ [((xa, xc, ps) : PX)]).length ∧ yn + f = 65 ∧ q1 + 1 ≤ s.size ∧ nmP hx f (sd (Ls ++ [((xa, xc, ps) : PX)])) (lf s (q1 + 1)) = some R) := by
     refine ⟨hN2'.out.1.wb hw3 hr3, by rw [hN2'.out.2]; simp, by have := hN2'.out.2; have := hN1.out.2.2.2.2.1; have := hN1.out.2.2.2.2.2; omega, hlt, ?_⟩
     rcases hmore.out with ⟨_, h2⟩ | ⟨h2, _⟩
     ·rw [← hN1.out.2.2.2.1, lf_drop] at h2
      rw [hsd.out]
      exact h2
     ·rw [← hN1.out.2.2.2.1] at h2
      exact absurd hh h2
    have hms : Hid (s.size - plc b w3 < s.size - plc b wr) := by
     have e1 := plc_eq hfin.out.1.2.2.1
     have e2 := hplc.out
     have e3 := hN1.out.2.1
     unfold Hid
     rw [e1, e2]
     omega
    clear hTk hh hlt hr3 hw3 hmore hN2' hN1
    go_wp2_with fail
    go_roundw
    case rel => exact ⟨q1 + 1, f, yn, yc, ya, _, rfl, hfin⟩
    case measure => exact hms.out
   ·have hfin : Hid (NQ ev s b w R (.returned (.tuple #[.slice ya yn yc, .nilIface])) w3) := by
     have hN3 := hN2'.out.1.wb hw3 hr3
     obtain ⟨hd3, hn3⟩ := hN3.drow rfl
     rcases hmore.out with ⟨h2, _⟩ | ⟨_, h2⟩
     ·rw [← hN1.out.2.2.2.1] at h2
      exact absurd h2 hh
     ·refine Or.inl ⟨sd Ls ++ [ps], ya, yc, _, h2, ?_, hd3, hsd.out, hN3.2.2.2.1⟩
      rw [hn3, List.length_append, List.length_append, Du.sd_len]
      rfl
    clear hTk hh hr3 hw3 hmore hN2' hN1
    go_wp2_with fail
    go_ret2
    exact hfin.out
  ·have hfin : Hid (NQ ev s b w R (.returned (.tuple #[.slice none 0 0, refV ev k1 ((s.size - m1 : Nat) : Int)])) w1) := by
    rcases hPc'.out with ⟨e, h1, h2⟩ | ⟨y, h1, _⟩
    ·rw [hPe] at h1
     injection h1 with h1
     rw [h2, ← h1]
     exact Or.inr ⟨k1, m1, rfl, rfl, hQ.out.1.2.2.2.1.trans hw1⟩
    ·rw [hPe] at h1; cases h1
   obtain ⟨t, u, hrv⟩ : ∃ t u, refV ev k1 ((s.size - m1 : Nat) : Int) = .iface t u := ⟨_, _, rfl⟩
   rw [hrv] at hfin ⊢
   clear hPe hq1s hr1 hw1 hrv hpt hPc' hQ
   go_wp2_with fail
   go_ret2
   exact hfin.out
end Pa
end Go.Proofs.YtkknenmpdimdbaaGreatDoor

namespace Go.Proofs.YtkknenmpdimdbaaGreatDoor
namespace Pa
open Go.RowKit
open TextMath (fold lo normal check wo unhex)
open Ke (refV tyOk tyC utf PR check_ty)
open Du (PX DRow sd)
set_option linter.unusedVariables false
set_option linter.unusedSimpArgs false
set_option maxRecDepth 100000
def PsQ (ev : Nat → TypeId × Value) (n : Nat) (w : World) (R : DRs) (e : Ending) (w' : World) : Prop :=
 Below w.heap.size w w' ∧ ((∃ D va c Ls, R = .ok D ∧ e = .returned (.tuple #[.slice va D.length c, .nilIface]) ∧ DRow w' va Ls ∧ sd Ls = D) ∨
 (∃ k m, R = .error (k, m) ∧ e = .returned (.tuple #[.slice none 0 0, refV ev k ((n - m : Nat) : Int)])))
theorem PsQ.drew {ev : Nat → TypeId × Value} {n : Nat} {w : World} {R : DRs} {e : Ending} {w' : World} (h : PsQ ev n w R e w') (i : Nat) : PsQ ev n w R e (w'.drewN i) := by
 obtain ⟨hb, ⟨D, va, c, Ls, h1, h2, h3, h4⟩ | h2⟩ := h
 ·exact ⟨hb.trans (Du.drewN_below _ _ _), Or.inl ⟨D, va, c, Ls, h1, h2, h3.below (Du.drewN_below _ _ _), h4⟩⟩
 ·exact ⟨hb.trans (Du.drewN_below _ _ _), Or.inr h2⟩
theorem chk_le (l : List UInt8) : (check l).2 ≤ l.length := by
 refine TextMath.check_ind (M := fun l => (check l).2 ≤ l.length) ?_ ?_ ?_ l.length l (Nat.le_refl _)
 ·exact Nat.zero_le _
 ·intro l h0 h1
  rw [TextMath.check_bad l h0 h1]
  exact Nat.zero_le _
 ·intro l h1 ih
  rw [TextMath.check_good l h1]
  have := TextMath.seqLen_le l
  rw [List.length_drop] at ih
  dsimp only
  omega
set_option maxHeartbeats 4000000 in
theorem parse_any (hx : List UInt8 → Option VR) (ev : Nat → TypeId × Value) (t : List UInt8) (w : World) (R : DRs) (hs : t.length ≤ 140737488355328) (hE : EvA ev w) (hH : ∀ b, HxOk hx ev (S t) b) (hR : prs hx t = some R) :
  Calls Tryz.prog 10 #[.string (S t)] w fun e w' => PsQ ev t.length w R e w' := by
 have hst : (S t).size = t.length := S_size t
 have hsl : Hid ((S t).data.toList = t) := S_l t
 obtain ⟨s, hse⟩ : ∃ s, S t = s := ⟨_, rfl⟩
 rw [hse] at hst hsl hH ⊢
 have h' : Hid (EvA ev w ∧ (∀ b, HxOk hx ev s b) ∧ s.size = t.length ∧ prs hx t = some R) := ⟨hE, hH, hst, hR⟩
 have hi0 : (0 : Int) ≤ (s.size : Int) := Int.natCast_nonneg _
 have hC : Hid (Calls Tryz.prog 29 #[.string s] w fun e w' => e = .returned (Go.Proofs.YtkknenmpdimdbaaGreatDoor.chkV t) ∧ w' = w) := by
  have h1 := check_any s w (by unfold maxLen; omega)
  rw [hsl.out] at h1
  exact h1
 have hib : (s.size : Int) ≤ 140737488355328 := by omega
 unfold prs at hR
 clear hE hH hse
 by_cases hlong : 4096 < t.length
 ·rw [if_pos hlong] at hR
  injection hR with hR
  have g1 : (4096 : Int) < (s.size : Int) := by omega
  obtain ⟨et, het⟩ : ∃ et, ev 50 = et := ⟨_, rfl⟩
  have hgc : w.cell? ⟨0, 0, none⟩ = some (.iface et.1 et.2) := by
   have h1 := h'.out.1 (50, 0) (by decide)
   rw [het] at h1
   exact h1
  have hql : (((t.length - (t.length - 4096) : Nat) : Int)) = 4096 := by omega
  have hfin : Hid (∀ i, PsQ ev t.length w R (.returned (.tuple #[.slice none 0 0, .iface 69 (.agg #[.iface et.1 et.2, .int .i64 4096])])) (w.drewN i)) := fun i => PsQ.drew ⟨Below.refl _ _, Or.inr ⟨50, _, hR.symm, by rw [hql, ← het]; rfl⟩⟩ i
  clear hC hst hR hlong hql het hib
  go_enter Tryz.func10, Tryz.ntmps10
  go_wp2_with fail
  go_quiet (fail)
  go_wp2_with fail
  go_ret2
  exact hfin.out _
 ·rw [if_neg hlong] at hR
  have g1 : ¬ (4096 : Int) < (s.size : Int) := by omega
  by_cases hu : utf t = true
  ·rw [if_neg (by simp [hu])] at hR
   have hcv : Go.Proofs.YtkknenmpdimdbaaGreatDoor.chkV t = .tuple #[.int .i64 0, .int .i64 ((check t).2 : Int)] := by
    unfold Go.Proofs.YtkknenmpdimdbaaGreatDoor.chkV
    unfold utf at hu
    rw [if_pos hu]
   rw [hcv] at hC
   generalize ((check t).2 : Int) = place at *
   by_cases hnil : t = []
   ·rw [if_pos hnil] at hR
    injection hR with hR
    have hz : s = ⟨#[]⟩ := by
     apply ByteArray.ext
     apply Array.eq_empty_of_size_eq_zero
     have : s.size = 0 := by rw [hst, hnil]; rfl
     exact this
    have hfin : Hid (PsQ ev t.length w R (.returned (.tuple #[.slice none 0 0, .nilIface])) w) := ⟨Below.refl _ _, Or.inl ⟨[], none, 0, [], hR.symm, rfl, ⟨Du.GRow.nil _ _ _ _, fun r hr => (by cases hr)⟩, rfl⟩⟩
    subst hz
    clear hst hR hlong hcv hib hu hnil hsl h'
    go_enter Tryz.func10, Tryz.ntmps10
    go_wp2_with (go_at_call 29; refine hC.out.mono ?_; rintro e w' ⟨rfl, hww⟩; obtain rfl := hww.symm; clear hww)
    go_ret2
    exact hfin.out
   ·rw [if_neg hnil] at hR
    have hne : (s.toList == []) = false := by
     rw [Lib.toList_data, hsl.out]
     cases t with
     | nil => exact absurd rfl hnil
     | cons a l => rfl
    obtain ⟨W0, hW0⟩ : ∃ W0, w.alloc (.cells #[.string s, .int .i64 0] 72) = W0 := ⟨_, rfl⟩
    have hb0 : Below w.heap.size w W0 := by rw [← hW0]; exact (Below.refl _ _).alloc (Nat.le_refl _) _
    have hr0 : Rd W0 w.heap.size s 0 := by rw [← hW0]; exact heap_alloc_last w _
    have hNm : Hid (Calls Tryz.prog 30 #[.pointer (some ⟨w.heap.size, 0, none⟩)] W0 fun e w' => NQ ev s w.heap.size W0 R e w') :=
     name_any hx ev s 0 w.heap.size W0 R hr0 (Nat.zero_le _) (by omega) (h'.out.1.below hb0) (h'.out.2.1 _) (by unfold lf; rw [List.drop_zero, hsl.out]; exact hR)
    have hb0' : Hid (Below w.heap.size w W0) := hb0
    have hW0' : Hid (w.alloc (.cells #[.string s, .int .i64 0] 72) = W0) := hW0
    clear hst hR hlong hcv hib hu hnil hb0 hr0 hW0
    go_enter Tryz.func10, Tryz.ntmps10
    go_upto_region 9 with (go_at_call 29; refine hC.out.mono ?_; rintro e w' ⟨rfl, hww⟩; obtain rfl := hww.symm; clear hww)
    rw [hW0'.out]
    go_wp2_with fail
    refine hNm.out.mono ?_
    rintro e w2 hq
    rcases hq with ⟨D, va, c, Ls, hRe, rfl, hd, hsd, hw⟩ | ⟨k, m, hRe, rfl, hw⟩
    ·have hfin : Hid (PsQ ev t.length w R (.returned (.tuple #[.slice va D.length c, .nilIface])) w2) := ⟨hb0'.out.trans hw.1, Or.inl ⟨D, va, c, Ls, hRe, rfl, hd, hsd⟩⟩
     generalize D.length = dn at *
     clear hRe hd hsd hw hNm hC hW0'
     go_wp2_with fail
     go_ret2
     exact hfin.out
    ·have hfin : Hid (PsQ ev t.length w R (.returned (.tuple #[.slice none 0 0, refV ev k ((s.size - m : Nat) : Int)])) w2) := ⟨hb0'.out.trans hw.1, Or.inr ⟨k, m, hRe, by rw [h'.out.2.2.1]⟩⟩
     obtain ⟨tt, u, hrv⟩ : ∃ t u, refV ev k ((s.size - m : Nat) : Int) = .iface t u := ⟨_, _, rfl⟩
     rw [hrv] at hfin ⊢
     clear hRe hw hrv hNm hC hW0'
     go_wp2_with fail
     go_ret2
     exact hfin.out
  ·have hu' : utf t = false := by simpa using hu
   rw [if_pos hu'] at hR
   injection hR with hR
   have hcv : Go.Proofs.YtkknenmpdimdbaaGreatDoor.chkV t = .tuple #[.int .i64 10, .int .i64 ((check t).2 : Int)] := by
    unfold Go.Proofs.YtkknenmpdimdbaaGreatDoor.chkV
    unfold utf at hu
    rw [if_neg hu]
   rw [hcv] at hC
   obtain ⟨et, het⟩ : ∃ et, ev 51 = et := ⟨_, rfl⟩
   have hgc : w.cell? ⟨1, 0, none⟩ = some (.iface et.1 et.2) := by
    have h1 := h'.out.1 (51, 1) (by decide)
    rw [het] at h1
    exact h1
   have hql : (((t.length - (t.length - (check t).2) : Nat) : Int)) = ((check t).2 : Int) := by have := chk_le t; omega
   have hfin : Hid (∀ i, PsQ ev t.length w R (.returned (.tuple #[.slice none 0 0, .iface 69 (.agg #[.iface et.1 et.2, .int .i64 ((check t).2 : Int)])])) (w.drewN i)) := fun i => PsQ.drew ⟨Below.refl _ _, Or.inr ⟨51, _, hR.symm, by rw [hql, ← het]; rfl⟩⟩ i
   generalize ((check t).2 : Int) = place at *
   clear hst hR hlong hql het hib hcv hu hu'
   go_enter Tryz.func10, Tryz.ntmps10
   go_wp2_with (go_at_call 29; refine hC.out.mono ?_; rintro e w' ⟨rfl, hww⟩; obtain rfl := hww.symm; clear hww)
   go_quiet (fail)
   go_wp2_with fail
   go_ret2
   exact hfin.out _
end Pa
end Go.Proofs.YtkknenmpdimdbaaGreatDoor

namespace Go.Proofs.YtkknenmpdimdbaaGreatDoor
namespace BtSeq
open Go.RowKit Go.Shelf
set_option linter.unusedVariables false
def SeqP {α : Type} (n : Nat) (P : Program) (g : Nat) (lb : Array Value) (encs : α → Array Value) (Kp : World → World → Prop) (L : List α) (r : Option (List PanicEntry)) (w : World) : Prop :=
 ∀ (l : Nat) (J Jx : List α → World → Prop) (W : World), Below w.heap.size w W → OwnFrom W.heap.size J → OwnFrom W.heap.size Jx →
  (∀ pre x W1, J pre W1 → (pre ++ [x]) <+: L → YieldAt Fence.wide (n - 1) P l (encs x) W1 fun e W' => KeepsFrom W.heap.size W1 W' ∧ Kp W1 W' ∧
   ((e = .returned (.bool true) ∧ J (pre ++ [x]) W') ∨ (e = .returned (.bool false) ∧ Jx (pre ++ [x]) W'))) →
  J [] W →
  CallsIn Fence.wide n P g (#[.func (.yield l) #[] #[]] ++ lb) W fun e W' =>
   ((∃ v, e = .returned v) ∧ r = none ∧ J L W') ∨ ((∃ v, e = .returned v) ∧ ∃ pre, pre <+: L ∧ Jx pre W') ∨ (∃ ch, r = some ch ∧ e = .panicked ch ∧ J L W')
def postP {α : Type} (B : Nat) (Kp : World → World → Prop) (I : List α → World → Prop) (Ix : Code → List α → World → Prop) (xs : List α) (W : World) : Exit → Act → World → Prop
 | .normal, _, W' => KeepsFrom B W W' ∧ Kp W W' ∧ I xs W'
 | .ret, _, W' => KeepsFrom B W W' ∧ Kp W W' ∧ Ix .ret xs W'
 | .exit id, _, W' => KeepsFrom B W W' ∧ Kp W W' ∧ Ix (.exit id) xs W'
 | .goto t, _, W' => KeepsFrom B W W' ∧ Kp W W' ∧ Ix (.goto t) xs W'
 | .panic _, _, _ => False
 | .outgrown, _, _ => False
theorem postP_shut {α : Type} {B : Nat} {Kp : World → World → Prop} {I : List α → World → Prop} {Ix : Code → List α → World → Prop} {xs : List α} {W : World} : ¬ LetsOut (postP B Kp I Ix xs W) := fun ⟨_, _, h⟩ => h
theorem range_p {n : Nat} {P : Program} {α : Type} {g : Operand} {ps : Array Tmp} {assign body : Code} {Q : Exit → Act → World → Prop} {a : Act} {w : World}
  (h1 : 1 ≤ n) {gf : Nat} {lb : Array Value} (hg : a.eval g = .func (.func gf) #[] lb) (eg : ∀ args w, (callFunc gf args).run P w = .ok (.enter gf args) w)
  {encs : α → Array Value} {Kp : World → World → Prop} {L : List α} {r : Option (List PanicEntry)} {w0 : World} (hseq : SeqP (n - 1) P gf lb encs Kp L r w0)
  (hKt : ∀ {A B C : World}, Kp A B → Kp B C → Kp A C) (hKb : ∀ (W : World) (l : Nat) (o o' : Obj), w.heap.size ≤ l → W.heap[l]? = some o → o.isCells = false → o.isWalk = false → Kp W (W.putObj l o'))
  (hb0 : Below w0.heap.size w0 w) (hps : ∀ x, (encs x).size = ps.size)
  (I : List α → World → Prop) (Ix : Code → List α → World → Prop) (hI : OwnFrom w.heap.size I) (hIx : ∀ c, OwnFrom w.heap.size (Ix c)) (h0 : I [] w)
  (Ax : α → Act → World → Prop) (hAx : ∀ x a', OwnFrom w.heap.size (fun (_ : Unit) W => Ax x a' W))
  (hassign : ∀ (l : Nat) (pre : List α) (x : α) (W : World) (K : Act → World → Prop), I pre W → (pre ++ [x]) <+: L → (∀ a' W', KeepsFrom w.heap.size W W' → Kp W W' → I pre W' → Ax x a' W' → K a' W') →
   assign.wpIn (Fence.wide.inRound l) (n - 1 - 1) P (Exit.then K (fun _ _ _ => False)) { tmps := (ps.zip (encs x)).foldl (fun t (p, v) => t.setIfInBounds p v) a.tmps, defers := [] } W)
  (hbody : ∀ (l : Nat) (pre : List α) (x : α) (a' : Act) (W : World), w.heap.size ≤ l → (∃ r, W.heap[l]? = some (.loop r)) → I pre W → Ax x a' W → (pre ++ [x]) <+: L → body.wpIn (Fence.wide.inRound l) (n - 1 - 1) P (postP w.heap.size Kp I Ix (pre ++ [x]) W) a' W)
  (hdone : ∀ (D : Nat) (W : World), w.heap.size ≤ D → r = none → I L W → W.heap[D]? = some (.deferred (some [])) → Q .normal { a with defers := { target := .collected D, args := #[] } :: a.defers } W)
  (hstop : ∀ (D : Nat) (c : Code) (pre : List α) (W : World), w.heap.size ≤ D → pre <+: L → Ix c pre W → W.heap[D]? = some (.deferred (some [])) → c.wpIn Fence.wide n P Q { a with defers := { target := .collected D, args := #[] } :: a.defers } W)
  (hpanic : ∀ (D : Nat) (ch : List PanicEntry) (W : World), w.heap.size ≤ D → r = some ch → I L W → W.heap[D]? = some (.deferred (some [])) → Q (.panic ch) { a with defers := { target := .collected D, args := #[] } :: a.defers } W) :
  (Code.rangeFunc g ps assign body).wpIn Fence.wide n P Q a w := by
 refine wpIn_rangeFunc (fun fn hfn => ?_)
 obtain ⟨R, hR⟩ : ∃ R : LoopState → Option Code → Loop, R = fun s p => { state := s, pending := p, fn, tmps := a.tmps, params := ps, assign, body, defers := w.heap.size } := ⟨_, rfl⟩
 let V : World := (w.alloc (.deferred (some []))).alloc (.loop (R .ready none))
 have vs : V.heap.size = w.heap.size + 2 := by simp [V]
 have hbV : Below w.heap.size w V := ((Below.refl _ w).alloc (Nat.le_refl _) _).alloc (by simp) _
 have vl : V.heap[w.heap.size + 1]? = some (.loop (R .ready none)) := by
  have := World.alloc_heap_new (w.alloc (.deferred (some []))) (.loop (R .ready none))
  rwa [World.size_alloc] at this
 have vd : V.heap[w.heap.size]? = some (.deferred (some [])) := (Below.heap_alloc _ _ _ (by simp)).trans (World.alloc_heap_new w _)
 have hent : (Instr.enterLoop fn a.tmps ps assign body Fence.wide.round).run P w = .ok (w.heap.size + 1, [{ target := .collected w.heap.size, args := #[] }]) V := by
  have := run_enterLoop_outer (P := P) (w := w) fn a.tmps ps assign body
  rw [show Fence.wide.round = none from rfl, this]
  show _ = Result.ok _ ((w.alloc (.deferred (some []))).alloc (.loop (R .ready none)))
  rw [hR]
 refine ⟨w.heap.size + 1, [{ target := .collected w.heap.size, args := #[] }], V, { target := .fn (.func gf) lb, args := #[.func (.yield (w.heap.size + 1)) #[] #[]] }, V, gf, #[.func (.yield (w.heap.size + 1)) #[] #[]] ++ lb, V, hent, ?_, fun _ _ => trivial, ?_, fun _ => h1, ?_⟩
 ·simp only [resolve, hg]
  simp [go_sem]
 ·simp [invoke, go_sem, eg]
 have up : ∀ {row : Option Nat} {A : World}, (∀ q, row = some q → V.heap.size ≤ q ∧ ∃ o : Obj, A.heap[q]? = some o ∧ o.isCells = false) → ∀ q, row = some q → w.heap.size ≤ q ∧ ∃ o : Obj, A.heap[q]? = some o ∧ o.isCells = false := fun h q e => ⟨by have := (h q e).1; omega, (h q e).2⟩
 have stands : ∀ {row : Option Nat} {A B : World} {k : Nat} {o : Obj}, A.grownBy B row → (∀ q, row = some q → V.heap.size ≤ q ∧ ∃ o : Obj, A.heap[q]? = some o ∧ o.isCells = false) → A.heap[k]? = some o → k < V.heap.size → B.heap[k]? = some o := fun hg hr hk hlt =>
  (hg.block _ (Array.getElem?_eq_some_iff.1 hk).1 (fun e => by have := (hr _ e.symm).1; omega)).trans hk
 refine (hseq (w.heap.size + 1)
  (fun pre W => I pre W ∧ W.heap[w.heap.size + 1]? = some (.loop (R .ready none)) ∧ W.heap[w.heap.size]? = some (.deferred (some [])))
  (fun pre W => ∃ c, Ix c pre W ∧ W.heap[w.heap.size + 1]? = some (.loop (R .done (some c))) ∧ W.heap[w.heap.size]? = some (.deferred (some [])))
  V (hb0.trans (hbV.mono hb0.size)) (fun s A B row hs hg hr => ⟨hI s A B row hs.1 hg (up hr), stands hg hr hs.2.1 (by omega), stands hg hr hs.2.2 (by omega)⟩)
  (fun s A B row hs hg hr => by
   obtain ⟨c, q1, q2, q3⟩ := hs
   exact ⟨c, hIx c s A B row q1 hg (up hr), stands hg hr q2 (by omega), stands hg hr q3 (by omega)⟩) ?round ⟨hI.alloc _ (hI.alloc _ h0), vl, vd⟩).mono ?behind
 case behind =>
  rintro e U (⟨⟨v, rfl⟩, hr, q1, q2, q3⟩ | ⟨⟨v, rfl⟩, pre, hp, c, q1, q2, q3⟩ | ⟨ch, hr, rfl, q1, q2, q3⟩)
  ·have he := run_endLoop (P := P) q2 (by rw [hR]; simp)
   rw [hR] at he
   exact ⟨none, _, he, hdone _ _ (Nat.le_refl _) hr (hI.putObj _ q1 (by omega) q2 rfl) ((World.putObj_heap_other (by omega)).trans q3)⟩
  ·have he := run_endLoop (P := P) q2 (by rw [hR]; simp)
   rw [hR] at he
   exact ⟨some c, _, he, hstop _ c pre _ (Nat.le_refl _) hp ((hIx c).putObj _ q1 (by omega) q2 rfl) ((World.putObj_heap_other (by omega)).trans q3)⟩
  ·exact hpanic _ ch _ (Nat.le_refl _) hr q1 q3
 case round =>
  rintro pre x U ⟨u1, u2, u3⟩ hpx
  have hy := run_yield (P := P) (args := encs x) u2 (by rw [hR]; exact hps x)
  rw [hR] at hy
  refine ⟨fn, _, assign, body, hy, roundIn_of_wpIn hfn (hassign _ pre x U _ u1 hpx ?_)⟩
  clear hy
  intro a' U0 hk0 hkp0 i0 ax0
  have us0 : w.heap.size + 1 < U.heap.size := (Array.getElem?_eq_some_iff.1 u2).1
  have u2' : U0.heap[w.heap.size + 1]? = some (.loop (R .ready none)) := hk0.same _ _ (by omega) u2 rfl
  have u3' : U0.heap[w.heap.size]? = some (.deferred (some [])) := hk0.same _ _ (Nat.le_refl _) u3 rfl
  have us : w.heap.size + 1 < U0.heap.size := (Array.getElem?_eq_some_iff.1 u2').1
  refine ⟨_, run_beginRound u2' (by rw [hR]), ?_⟩
  obtain ⟨U1, hU1⟩ : ∃ U1, U0.putObj (w.heap.size + 1) (.loop { R .ready none with state := .busy }) = U1 := ⟨_, rfl⟩
  have b1 : U1.heap[w.heap.size + 1]? = some (.loop { R .ready none with state := .busy }) := by rw [← hU1]; exact World.putObj_heap_same us
  have b2 : U1.heap[w.heap.size]? = some (.deferred (some [])) := by rw [← hU1]; exact (World.putObj_heap_other (by omega)).trans u3'
  have b3 : I pre U1 := by rw [← hU1]; exact hI.putObj _ i0 (by omega) u2' rfl
  have b3' : Ax x a' U1 := by rw [← hU1]; exact (hAx x a').putObj (s := ()) _ ax0 (by omega) u2' rfl
  have b4 : Kp U0 U1 := by rw [← hU1]; exact hKb _ _ _ _ (by omega) u2' rfl rfl
  rw [hU1]
  refine wpIn_mono (hbody _ pre x a' U1 (by omega) ⟨_, b1⟩ b3 b3' hpx) ?_
  have fin : ∀ (j : Option Code) (U2 : World), KeepsFrom w.heap.size U1 U2 → U2.heap[w.heap.size + 1]? = some (.loop { R .ready none with state := .busy }) ∧
    (Instr.endRound (w.heap.size + 1) j).run P U2 = .ok (.bool j.isNone) (U2.putObj (w.heap.size + 1) (.loop (R (if j.isNone then .ready else .done) j))) ∧
    (U2.putObj (w.heap.size + 1) (.loop (R (if j.isNone then .ready else .done) j))).heap[w.heap.size + 1]? = some (.loop (R (if j.isNone then .ready else .done) j)) ∧
    (U2.putObj (w.heap.size + 1) (.loop (R (if j.isNone then .ready else .done) j))).heap[w.heap.size]? = some (.deferred (some [])) := fun j U2 hk => by
   have c1 := hk.same _ _ (by omega) b1 rfl
   have c2 := hk.same _ _ (Nat.le_refl _) b2 rfl
   have c3 := run_endRound (P := P) j c1
   refine ⟨c1, ?_, World.putObj_heap_same (Array.getElem?_eq_some_iff.1 c1).1, (World.putObj_heap_other (by omega)).trans c2⟩
   rw [hR] at c3 ⊢
   exact c3
  have kf : ∀ (o' : Obj) (U2 : World), KeepsFrom w.heap.size U1 U2 → KeepsFrom V.heap.size U (U2.putObj (w.heap.size + 1) o') := fun o' U2 hk => by
   have s0 := hk0.size
   have s1 : U1.heap.size = U0.heap.size := by rw [← hU1]; simp [World.putObj]
   have s2 := hk.size
   refine ⟨by simp only [World.putObj, Array.size_setIfInBounds]; omega, fun k o hk1 hk2 hk3 => ?_⟩
   have e0 : U0.heap[k]? = some o := hk0.same k o (by omega) hk2 hk3
   have e1 : U1.heap[k]? = some o := by rw [← hU1]; exact (World.putObj_heap_other (by omega)).trans e0
   exact (World.putObj_heap_other (by omega)).trans (hk.same k o (by omega) e1 hk3)
  rintro e a3 U2 hp
  cases e with
  | normal =>
   obtain ⟨c0, c1, c2⟩ := fin none U2 hp.1
   exact ⟨_, _, c1, kf _ _ hp.1, hKt (hKt (hKt hkp0 b4) hp.2.1) (hKb _ _ _ _ (by omega) c0 rfl rfl), .inl ⟨rfl, hI.putObj _ hp.2.2 (by omega) c0 rfl, c2⟩⟩
  | ret =>
   obtain ⟨c0, c1, c2⟩ := fin (some .ret) U2 hp.1
   exact ⟨_, _, c1, kf _ _ hp.1, hKt (hKt (hKt hkp0 b4) hp.2.1) (hKb _ _ _ _ (by omega) c0 rfl rfl), .inr ⟨rfl, _, (hIx _).putObj _ hp.2.2 (by omega) c0 rfl, c2⟩⟩
  | exit i =>
   obtain ⟨c0, c1, c2⟩ := fin (some (.exit i)) U2 hp.1
   exact ⟨_, _, c1, kf _ _ hp.1, hKt (hKt (hKt hkp0 b4) hp.2.1) (hKb _ _ _ _ (by omega) c0 rfl rfl), .inr ⟨rfl, _, (hIx _).putObj _ hp.2.2 (by omega) c0 rfl, c2⟩⟩
  | goto t =>
   obtain ⟨c0, c1, c2⟩ := fin (some (.goto t)) U2 hp.1
   exact ⟨_, _, c1, kf _ _ hp.1, hKt (hKt (hKt hkp0 b4) hp.2.1) (hKb _ _ _ _ (by omega) c0 rfl rfl), .inr ⟨rfl, _, (hIx _).putObj _ hp.2.2 (by omega) c0 rfl, c2⟩⟩
  | panic c => exact hp.elim
  | outgrown => exact hp.elim
theorem ops_round {l n : Nat} {P : Program} {ops : Array Oper} {Q : Exit → Act → World → Prop} (hnd : ∀ (i : Nat) (o : Oper), ops[i]? = some o → ∀ c, o.op ≠ .defer c) (hno : ¬ LetsOut Q) :
  ∀ (order : List Nat) (a : Act) (w : World), wpOps P ops Q order a w → wpOpsIn (Fence.wide.inRound l) n P ops Q order a w := by
 intro order
 induction order with
 | nil => intro a w h; exact h
 | cons i rest ih =>
  intro a w h
  cases ho : ops[i]? with
  | none =>
   simp only [wpOps, ho] at h
   simp only [wpOpsIn, ho]
   exact ih a w h
  | some o =>
   simp only [wpOps, ho] at h
   simp only [wpOpsIn, ho]
   split
   ·rename_i hw
    simp only [hw, if_true] at h
    rcases h with h | ⟨_, h⟩
    ·refine ⟨fun _ _ => trivial, ?_⟩
     rw [Oper.semAt_eq _ _ _ (hnd i o ho)]
     unfold Oper.wp at h
     generalize (execOp a.eval o).run P w = res at *
     cases res with
     | ok x w' =>
      cases x <;> simp only [Oper.upon, Oper.uponIn] at h ⊢
      case value v => exact ih _ _ h
      case skip => exact ih _ _ h
      case defer d => exact ih _ _ h
      case enter f args =>
       refine ⟨fun h => by simp [Fence.wide, Fence.inRound] at h, CallsIn.inRound l (callsIn_wide.2 (h.mono ?_))⟩
       intro e w'' he
       cases e with
       | returned v => exact ih _ _ he
       | panicked c => exact he
       | outgrown => exact he
      case row row args =>
       refine ⟨fun h => by simp [Fence.wide, Fence.inRound] at h, ?_⟩
       intro c cs _
       obtain ⟨v, w'', hv, hs⟩ := h c cs
       exact ⟨v, w'', ih _ _ hv, stepsIn_wide.2 hs⟩
     | halt x w' => cases x <;> simp only [Oper.upon, Oper.uponIn] at h ⊢ <;> exact h
    ·exact absurd h hno
   ·rename_i hw
    simp only [hw] at h
    exact ⟨fun _ _ => trivial, ih _ _ h⟩
theorem region_round {l n id : Nat} {P : Program} {ops : Array Oper} {Q : Exit → Act → World → Prop} {S : World → Prop} {a : Act} {w : World} (hm : P.follows .mixedOrders = true) (hnd : ∀ (i : Nat) (o : Oper), ops[i]? = some o → ∀ c, o.op ≠ .defer c) (hno : ¬ LetsOut Q)
  (hS : S w.drew) (h : S w.drew → wpAnyH P .any ops Q S ops.size (Array.replicate ops.size false) a w.drew) : (Code.region id ops true).wpIn (Fence.wide.inRound l) n P Q a w :=
 wpIn_region_draw fun t => ops_round hnd hno _ _ _ (by
  simp only [Region.schedule, hm, Bool.true_or, if_true]
  exact wpAny_sound ops.size t _ a _ (wpAny_of_held _ _ _ _ (h hS)))
end BtSeq
end Go.Proofs.YtkknenmpdimdbaaGreatDoor

namespace Go.Proofs.YtkknenmpdimdbaaGreatDoor
namespace BerMath
structure Hd where
 cls : Nat
 made : Bool
 tag : Nat
 len : Nat
 size : Nat
abbrev HR := Except (Option (Nat × Nat)) Hd
abbrev HR.er (code pos : Nat) : HR := .error (some (code, pos))
abbrev HR.miss : HR := .error none
theorem er_inj {a b c q : Nat} (h : HR.er a b = HR.er c q) : a = c ∧ b = q := by
 injection h with h
 injection h with h
 injection h with h1 h2
 exact ⟨h1, h2⟩
def num (v : Nat) (l : List UInt8) : Nat := l.foldl (fun n b => n * 256 + b.toNat) v
theorem num_snoc (v : Nat) (l : List UInt8) (b : UInt8) : num v (l ++ [b]) = num v l * 256 + b.toNat := by simp [num]
theorem num_lt (l : List UInt8) : num 0 l < 256 ^ l.length := by
 have key : ∀ (l : List UInt8) (v : Nat), num v l < (v + 1) * 256 ^ l.length := by
  intro l
  induction l with
  | nil => intro v; simp [num]
  | cons x l ih =>
   intro v
   have h := ih (v * 256 + x.toNat)
   have hx := x.toNat_lt
   have e : num v (x :: l) = num (v * 256 + x.toNat) l := rfl
   rw [e, List.length_cons, Nat.pow_succ]
   refine Nat.lt_of_lt_of_le h ?_
   have : v * 256 + x.toNat + 1 ≤ (v + 1) * 256 := by omega
   calc (v * 256 + x.toNat + 1) * 256 ^ l.length ≤ ((v + 1) * 256) * 256 ^ l.length := Nat.mul_le_mul_right _ this
    _ = (v + 1) * (256 ^ l.length * 256) := by rw [Nat.mul_assoc, Nat.mul_comm 256]
 have := key l 0
 simpa using this
def hAt (b : List UInt8) (p e : Nat) : HR :=
 if e ≤ p then HR.miss
 else if (b.getD p 0).toNat % 32 = 31 then HR.er 21 p
 else if e ≤ p + 1 then HR.miss
 else if (b.getD (p + 1) 0).toNat = 128 then HR.er 22 (p + 1)
 else if 132 < (b.getD (p + 1) 0).toNat then HR.er 23 (p + 1)
 else if (b.getD (p + 1) 0).toNat < 128 then .ok ⟨(b.getD p 0).toNat / 64, decide ((b.getD p 0).toNat / 32 % 2 = 1), (b.getD p 0).toNat % 32, (b.getD (p + 1) 0).toNat, 2⟩
 else if e < p + ((b.getD (p + 1) 0).toNat - 126) then HR.miss
 else .ok ⟨(b.getD p 0).toNat / 64, decide ((b.getD p 0).toNat / 32 % 2 = 1), (b.getD p 0).toNat % 32, num 0 ((b.drop (p + 2)).take ((b.getD (p + 1) 0).toNat - 128)), (b.getD (p + 1) 0).toNat - 126⟩
end BerMath
end Go.Proofs.YtkknenmpdimdbaaGreatDoor

namespace Go.Proofs.YtkknenmpdimdbaaGreatDoor
namespace BerMath
def lo (n : Int) : UInt8 := UInt8.ofNat (n % 256).toNat
theorem lo_eq (n : Int) (b : UInt8) (h : n % 256 = (b.toNat : Int)) : lo n = b := by
 unfold lo
 rw [h]
 simp
def sz (n : Int) : Nat :=
 if -128 ≤ n ∧ n ≤ 127 then 1 else if -32768 ≤ n ∧ n ≤ 32767 then 2 else if -8388608 ≤ n ∧ n ≤ 8388607 then 3 else if -2147483648 ≤ n ∧ n ≤ 2147483647 then 4
 else if -549755813888 ≤ n ∧ n ≤ 549755813887 then 5 else if -140737488355328 ≤ n ∧ n ≤ 140737488355327 then 6 else if -36028797018963968 ≤ n ∧ n ≤ 36028797018963967 then 7 else 8
def be : Nat → Int → List UInt8
 | 0, _ => []
 | k + 1, n => be k (n / 256) ++ [lo n]
def enc (n : Int) : List UInt8 := be (sz n) n
def sg (l : List UInt8) : Int := if 128 ≤ (l.getD 0 0).toNat then -1 else 0
def fo (v : Int) (l : List UInt8) : Int := l.foldl (fun n b => n * 256 + (b.toNat : Int)) v
def val (l : List UInt8) : Int := fo (sg l) l
def pad : List UInt8 → Bool
 | x :: y :: _ => decide (x.toNat = 0 ∧ y.toNat < 128) || decide (x.toNat = 255 ∧ 128 ≤ y.toNat)
 | _ => false
def okInt (l : List UInt8) : Bool := decide (1 ≤ l.length) && decide (l.length ≤ 8) && !pad l
end BerMath
end Go.Proofs.YtkknenmpdimdbaaGreatDoor

namespace Go.Proofs.YtkknenmpdimdbaaGreatDoor
open Go.RowKit
open BerMath (lo sz be enc sg fo val pad okInt)
theorem or_low (n : Int) (b : Nat) (hb : b < 256) (h1 : -36028797018963968 ≤ n) (h2 : n ≤ 36028797018963967) : bits .or .i64 (n * 256) (b : Int) = n * 256 + (b : Int) := by
 have e1 : (BitVec.ofInt 64 (b : Int)).toNat = b := by rw [BitVec.toNat_ofInt]; omega
 have e2 : (BitVec.ofInt 64 (n * 256)).toNat = (n % 72057594037927936).toNat <<< 8 := by
  rw [BitVec.toNat_ofInt, Nat.shiftLeft_eq]; omega
 have key : (BitVec.ofInt 64 (n * 256) ||| BitVec.ofInt 64 (b : Int)).toNat = (n % 72057594037927936).toNat * 256 + b := by
  rw [BitVec.toNat_or, e1, e2, ← Nat.shiftLeft_add_eq_or_of_lt (by omega), Nat.shiftLeft_eq]
 show IntKind.i64.wrap ((BitVec.ofInt 64 (n * 256) ||| BitVec.ofInt 64 (b : Int)).toNat : Nat) = _
 rw [key, IntKind.wrap_i64]
 omega
end Go.Proofs.YtkknenmpdimdbaaGreatDoor
