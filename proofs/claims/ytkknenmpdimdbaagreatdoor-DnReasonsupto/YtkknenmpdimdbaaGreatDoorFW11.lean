import Derived.Test.YtkknenmpdimdbaaGreatDoorFW10
import Derived.Test.YtkknenmpdimdbaaGreatDoorRows
import Derived.Test.YtkknenmpdimdbaaGreatDoorFW9
import Derived.Test.YtkknenmpdimdbaaGreatDoorBytes
import Derived.Test.YtkknenmpdimdbaaGreatDoorAtBook
import Derived.Maps.OwnSet
import Derived.Maps.RangeWalk
import Derived.Maps.Ext
import Derived.Maps.AppendAt
import Derived.BigQuiet
import Derived.WalkKit
import Derived.Lib.Strings
import Derived.Deep.AppendLies
import Derived.Great.BuildSlice
import Derived.KernelRfl
import Derived.Lib.AppendZeros
namespace Go.Proofs.YtkknenmpdimdbaaGreatDoor
namespace Ke
open Go.RowKit
open Du (PRow pV pV_len prow_at)
set_option linter.unusedVariables false
set_option linter.unusedSimpArgs false
set_option maxRecDepth 100000
theorem kt_box {w w' : World} {k : Nat} {cs : Array Value} {t : TypeId} {fz : Nat × Nat} (h : Lr.Kt w w') (hb : w.heap[k]? = some (.cells cs t fz)) (h1 : t ≠ 89) (h2 : t ≠ 5) : w'.heap[k]? = some (.cells cs t fz) :=
 h k _ hb (fun _ _ e => by injection e with _ e _; exact h1 e) (fun _ _ e => by injection e with _ e _; exact h2 e)
def ptW (p : PR) : Nat := p.1.length + 3 * p.2.length + 2
theorem pt1_len (p : PR) : (pt1 p).length + 1 ≤ ptW p := by
 have := escV_len p.2
 unfold pt1 ptW
 simp only [List.length_append, List.length_cons]
 omega
theorem ptT_len (l : List PR) : (ptT l).length ≤ (l.map ptW).sum := by
 induction l with
 | nil => simp [ptT]
 | cons p l ih =>
  have := pt1_len p
  unfold ptT at ih ⊢
  simp only [List.flatMap_cons, List.length_append, List.length_cons, List.map_cons, List.sum_cons]
  omega
theorem ptx_len (l : List PR) : (ptx l).length ≤ (l.map ptW).sum := by
 cases l with
 | nil => simp [ptx]
 | cons p l =>
  have := pt1_len p
  have := ptT_len l
  simp only [ptx, List.length_append, List.map_cons, List.sum_cons]
  omega
theorem sum_take (l : List PR) (i : Nat) : ((l.take i).map ptW).sum ≤ (l.map ptW).sum := by
 have e : (l.map ptW).sum = ((l.take i).map ptW).sum + ((l.drop i).map ptW).sum := by rw [← List.sum_append, ← List.map_append, List.take_append_drop]
 omega
theorem sum_at (l : List PR) (i : Nat) (h : i < l.length) : ((l.take i).map ptW).sum + ptW l[i] ≤ (l.map ptW).sum := by
 have h1 := sum_take l (i + 1)
 rw [List.take_succ_eq_append_getElem h, List.map_append, List.sum_append] at h1
 simpa using h1
theorem isB_below {B b : Nat} {l : List UInt8} {W W' : World} (h : IsB B b l W) (hb : Below W.heap.size W W') : IsB B b l W' := by
 have key : ∀ p, Lib.BuilderAt 89 5 B b p (bv l) W → Lib.BuilderAt 89 5 B b p (bv l) W' := fun p hp => by
  obtain ⟨h1, v, h2, h3, h4⟩ := hp
  have hlt : b < W.heap.size := (Array.getElem?_eq_some_iff.1 h2).1
  exact ⟨h1, v, by rw [hb.block b hlt]; exact h2, Du.owns_same h3 (fun g hg => hb.block g (World.ownsRow.lt h3 g hg).2), h4⟩
 rcases h with h | h
 ·exact Or.inl (key _ h)
 ·exact Or.inr (key _ h)
def Wr (B b : Nat) (w0 wS : World) (l : List UInt8) (W : World) : Prop := IsB B b l W ∧ Below B w0 W ∧ Lr.Kt wS W ∧ B ≤ w0.heap.size
theorem Wr.below {B b : Nat} {w0 wS : World} {l : List UInt8} {W W' : World} (h : Wr B b w0 wS l W) (hb : Below W.heap.size W W') : Wr B b w0 wS l W' :=
 ⟨isB_below h.1 hb, h.2.1.trans (hb.mono (Nat.le_trans h.2.2.2 h.2.1.size)), h.2.2.1.trans (Lr.Kt.below hb), h.2.2.2⟩
theorem Wr.rebase {B b : Nat} {w0 wS : World} {l : List UInt8} {W : World} (h : Wr B b w0 wS l W) : Wr B b w0 W l W := ⟨h.1, h.2.1, Lr.Kt.refl _, h.2.2.2⟩
theorem Wr.byte {B b : Nat} {w0 wS : World} {l : List UInt8} {W : World} (h : Wr B b w0 wS l W) (c : UInt8) (hl : l.length ≤ 1099511627776) :
  Calls Tryz.prog 40 #[.pointer (some ⟨b, 0, none⟩), .int .u8 (c.toNat : Int)] W fun e w' => e = .returned .nilIface ∧ Wr B b w0 wS (l ++ [c]) w' := by
 refine (Lr.writeByteK_any B b l c W h.1 hl (Nat.le_trans h.2.2.2 h.2.1.size)).mono ?_
 rintro e w' ⟨rfl, h1, h2, h3⟩
 exact ⟨rfl, h1, h.2.1.trans h2, h.2.2.1.trans h3, h.2.2.2⟩
theorem Wr.str {B b : Nat} {w0 wS : World} {l : List UInt8} {W : World} (h : Wr B b w0 wS l W) (s : ByteArray) (hl : l.length + s.size ≤ 1099511627776) :
  Calls Tryz.prog 71 #[.pointer (some ⟨b, 0, none⟩), .string s] W fun e w' => e = .returned (.tuple #[.int .i64 s.size, .nilIface]) ∧ Wr B b w0 wS (l ++ s.data.toList) w' := by
 refine (Lr.writeStringK_any B b l s W h.1 hl (Nat.le_trans h.2.2.2 h.2.1.size)).mono ?_
 rintro e w' ⟨rfl, h1, h2, h3⟩
 exact ⟨rfl, h1, h.2.1.trans h2, h.2.2.1.trans h3, h.2.2.2⟩
theorem Wr.esc {B b : Nat} {w0 wS : World} {l : List UInt8} {W : World} (h : Wr B b w0 wS l W) (s : ByteArray) (hl : l.length + 3 * s.size ≤ 1000000000000) :
  Calls Tryz.prog 72 #[.pointer (some ⟨b, 0, none⟩), .string s] W fun e w' => e = .returned (.tuple #[]) ∧ Wr B b w0 wS (l ++ escV s.data.toList) w' := by
 refine (writeEscape_any B b l s W h.1 hl (Nat.le_trans h.2.2.2 h.2.1.size)).mono ?_
 rintro e w' ⟨rfl, h1, h2, h3⟩
 exact ⟨rfl, h1, h.2.1.trans h2, h.2.2.1.trans h3, h.2.2.2⟩
set_option maxHeartbeats 4000000 in
theorem writePairs_any (B b : Nat) (l : List UInt8) (a : Option Addr) (c n : Nat) (ps : List PR) (w0 wS w : World) (hI : Wr B b w0 wS l w) (hn : ps.length = n) (hr : ∀ W, Below B w0 W → PRow W a ps) (hl : l.length + (ps.map ptW).sum ≤ 1000000000000) (hnb : n ≤ 140737488355328) :
  Calls Tryz.prog 41 #[.pointer (some ⟨b, 0, none⟩), .slice a n c] w fun e w' => e = .returned (.tuple #[]) ∧ Wr B b w0 wS (l ++ ptx ps) w' := by
 have nb : (n : Int) ≤ 140737488355328 := by omega
 have hI0 : Hid (Wr B b w0 wS (l ++ ptx (ps.take 0)) w) := by unfold Hid; simpa [ptx] using hI
 have hn' : Hid (ps.length = n) := hn
 have hr' : Hid (∀ W, Below B w0 W → PRow W a ps) := hr
 have hl' : Hid (l.length + (ps.map ptW).sum ≤ 1000000000000) := hl
 clear hI hn hr hl hnb
 go_enter Tryz.func41, Tryz.ntmps41
 go_wp2_with fail
 go_loopw [8] (fun i wr => ∃ k : Nat, k ≤ n ∧ i = .int .i64 k ∧ Hid (Wr B b w0 wS (l ++ ptx (ps.take k)) wr)) (fun i _ => n - (intOf i).toNat)
 case atStart => exact ⟨0, Nat.zero_le _, rfl, hI0⟩
 case round =>
  obtain ⟨k, hk, rfl, hR⟩ := hrel
  clear hI0
  have k0 : (0 : Int) ≤ (k : Int) := Int.natCast_nonneg _
  by_cases hlt : k < n
  ·have k1 : (k : Int) < (n : Int) := Int.ofNat_lt.2 hlt
   have hkP : k < ps.length := by rw [hn'.out]; exact hlt
   obtain ⟨pb, po, rfl, c3, c4⟩ := prow_at (hr'.out wr hR.out.2.1) k hkP
   have hsn : Hid (ptx (ps.take (k + 1)) = ptx (ps.take k) ++ (if k = 0 then pt1 ps[k] else 43 :: pt1 ps[k])) := by
    unfold Hid
    rw [List.take_succ_eq_append_getElem hkP, ptx_snoc]
    congr 1
    by_cases h0 : k = 0
    ·subst h0; simp
    ·rw [if_neg h0, if_neg (fun e => h0 (by have := congrArg List.length e; rw [List.length_take, List.length_nil] at this; omega))]
   have hlen : Hid ((l ++ ptx (ps.take k)).length + ptW ps[k] ≤ 1000000000000) := by
    have h1 := ptx_len (ps.take k)
    have h2 := sum_at ps k hkP
    have := hl'.out
    unfold Hid
    rw [List.length_append]
    omega
   generalize ps[k] = p at *
   obtain ⟨t, v⟩ := p
   dsimp only at c3 c4
   have hw2 : Hid (t.length + 3 * v.length + 2 + (l ++ ptx (ps.take k)).length ≤ 1000000000000) := by have := hlen.out; unfold Hid; unfold ptW at this; dsimp only at this; omega
   generalize hX : l ++ ptx (ps.take k) = X at *
   obtain ⟨W1, hW1⟩ : ∃ W1, wr.alloc (.cells #[.string (S t), .string (S v)] 64) = W1 := ⟨_, rfl⟩
   have hb1 : Hid (Wr B b w0 wS X W1) := by unfold Hid; rw [← hW1]; exact hR.out.below ((Below.refl _ _).alloc (Nat.le_refl _) _)
   have hx1 : Hid (W1.heap[wr.heap.size]? = some (.cells #[.string (S t), .string (S v)] 64 (0, 0))) := by unfold Hid; rw [← hW1]; exact heap_alloc_new _ _
   have hrest : Hid (∀ Y W2, Y.length ≤ X.length + 1 → Wr B b w0 W1 Y W2 → W2.cell? ⟨wr.heap.size, 0, none⟩ = some (.string (S t)) ∧ Calls Tryz.prog 71 #[.pointer (some ⟨b, 0, none⟩), .string (S t)] W2 fun e W3 => e = .returned (.tuple #[.int .i64 (S t).size, .nilIface]) ∧ Hid (Wr B b w0 W1 (Y ++ t) W3)) := fun Y W2 hY h => by
    refine ⟨by rw [cell_of_row _ _ _ _ _ _ (kt_box h.2.2.1 hx1.out (by decide) (by decide))]; rfl, ?_⟩
    have := h.str (S t) (by rw [S_size]; have := hw2.out; omega)
    rw [S_l] at this
    exact this
   have hrest2 : Hid (∀ Y W2, Y.length ≤ X.length + 1 + t.length → Wr B b w0 W1 Y W2 → Calls Tryz.prog 40 #[.pointer (some ⟨b, 0, none⟩), .int .u8 61] W2 fun e W3 => e = .returned .nilIface ∧ Hid (Wr B b w0 W1 (Y ++ [61]) W3)) := fun Y W2 hY h => h.byte 61 (by have := hw2.out; omega)
   have hrest3 : Hid (∀ Y W2, Y.length ≤ X.length + 2 + t.length → Wr B b w0 W1 Y W2 → W2.cell? ⟨wr.heap.size, 1, none⟩ = some (.string (S v)) ∧ Calls Tryz.prog 72 #[.pointer (some ⟨b, 0, none⟩), .string (S v)] W2 fun e W3 => e = .returned (.tuple #[]) ∧ Hid (Wr B b w0 W1 (Y ++ escV v) W3)) := fun Y W2 hY h => by
    refine ⟨by rw [cell_of_row _ _ _ _ _ _ (kt_box h.2.2.1 hx1.out (by decide) (by decide))]; rfl, ?_⟩
    have := h.esc (S v) (by rw [S_size]; have := hw2.out; omega)
    rw [S_l] at this
    exact this
   have hkS : Hid (Lr.Kt wS W1) := hb1.out.2.2.1
   have hlt' : Hid (k < n) := hlt
   have hlenX : Hid (X.length ≤ 1000000000000) := by have := hw2.out; unfold Hid; omega
   obtain ⟨st, hst⟩ : ∃ st, S t = st := ⟨_, rfl⟩
   obtain ⟨sv', hsv⟩ : ∃ sv', S v = sv' := ⟨_, rfl⟩
   rw [hst] at c3 hW1 hx1 hrest
   rw [hsv] at c4 hW1 hx1 hrest3
   clear hst hsv hlen hw2 hR hk hlt hkP
   by_cases h0 : k = 0
   ·have hend : Hid (∀ W, Wr B b w0 W1 (X ++ t ++ [61] ++ escV v) W → Wr B b w0 wS (l ++ ptx (ps.take (k + 1))) W) := fun W h => by
     refine ⟨?_, h.2.1, hkS.out.trans h.2.2.1, h.2.2.2⟩
     have e := hsn.out
     rw [if_pos h0] at e
     rw [e, ← List.append_assoc, hX]
     unfold pt1
     simpa using h.1
    have kp : ¬ (0 : Int) < (k : Int) := by omega
    obtain ⟨g0, s0⟩ := hrest.out X W1 (by omega) hb1.out.rebase
    have s0' : Hid (Calls Tryz.prog 71 #[.pointer (some ⟨b, 0, none⟩), .string st] W1 fun e W3 => e = .returned (.tuple #[.int .i64 st.size, .nilIface]) ∧ Hid (Wr B b w0 W1 (X ++ t) W3)) := s0
    clear s0 hrest hsn hb1 hx1 hkS h0
    go_wp2_with fail
    refine s0'.out.mono ?_
    rintro e W3 ⟨rfl, h3⟩
    have s1 : Hid (Calls Tryz.prog 40 #[.pointer (some ⟨b, 0, none⟩), .int .u8 61] W3 fun e W4 => e = .returned .nilIface ∧ Hid (Wr B b w0 W1 (X ++ t ++ [61]) W4)) := hrest2.out _ W3 (by simp only [List.length_append, List.length_cons, List.length_nil]; omega) h3.out
    clear s0' hrest2 h3 g0
    go_wp2_with fail
    refine s1.out.mono ?_
    rintro e W4 ⟨rfl, h4⟩
    obtain ⟨g4, s2⟩ := hrest3.out _ W4 (by simp only [List.length_append, List.length_cons, List.length_nil]; omega) h4.out
    have s2' : Hid (Calls Tryz.prog 72 #[.pointer (some ⟨b, 0, none⟩), .string sv'] W4 fun e W5 => e = .returned (.tuple #[]) ∧ Hid (Wr B b w0 W1 (X ++ t ++ [61] ++ escV v) W5)) := s2
    clear s1 hrest3 h4 s2
    go_wp2_with fail
    refine s2'.out.mono ?_
    rintro e W5 ⟨rfl, h5⟩
    have HI : Hid (Wr B b w0 wS (l ++ ptx (ps.take (k + 1))) W5) := hend.out W5 h5.out
    clear s2' h5 hend g4
    go_wp2_with fail
    go_roundw
    case rel => exact ⟨k + 1, hlt'.out, by go_num, HI⟩
    case measure => have := hlt'.out; simp [intOf]; omega
   ·have hend : Hid (∀ W, Wr B b w0 W1 (X ++ [43] ++ t ++ [61] ++ escV v) W → Wr B b w0 wS (l ++ ptx (ps.take (k + 1))) W) := fun W h => by
     refine ⟨?_, h.2.1, hkS.out.trans h.2.2.1, h.2.2.2⟩
     have e := hsn.out
     rw [if_neg h0] at e
     rw [e, ← List.append_assoc, hX]
     unfold pt1
     simpa using h.1
    have kp : (0 : Int) < (k : Int) := by omega
    have sp : Hid (Calls Tryz.prog 40 #[.pointer (some ⟨b, 0, none⟩), .int .u8 43] W1 fun e W2 => e = .returned .nilIface ∧ Hid (Wr B b w0 W1 (X ++ [43]) W2)) := hb1.out.rebase.byte 43 (by have := hlenX.out; omega)
    clear hsn hb1 hx1 hkS h0
    go_wp2_with fail
    refine sp.out.mono ?_
    rintro e W2 ⟨rfl, h2⟩
    obtain ⟨g0, s0⟩ := hrest.out _ W2 (by simp only [List.length_append, List.length_cons, List.length_nil]; omega) h2.out
    have s0' : Hid (Calls Tryz.prog 71 #[.pointer (some ⟨b, 0, none⟩), .string st] W2 fun e W3 => e = .returned (.tuple #[.int .i64 st.size, .nilIface]) ∧ Hid (Wr B b w0 W1 (X ++ [43] ++ t) W3)) := s0
    clear s0 hrest h2 sp
    go_wp2_with fail
    refine s0'.out.mono ?_
    rintro e W3 ⟨rfl, h3⟩
    have s1 : Hid (Calls Tryz.prog 40 #[.pointer (some ⟨b, 0, none⟩), .int .u8 61] W3 fun e W4 => e = .returned .nilIface ∧ Hid (Wr B b w0 W1 (X ++ [43] ++ t ++ [61]) W4)) := hrest2.out _ W3 (by simp only [List.length_append, List.length_cons, List.length_nil]; omega) h3.out
    clear s0' hrest2 h3 g0
    go_wp2_with fail
    refine s1.out.mono ?_
    rintro e W4 ⟨rfl, h4⟩
    obtain ⟨g4, s2⟩ := hrest3.out _ W4 (by simp only [List.length_append, List.length_cons, List.length_nil]; omega) h4.out
    have s2' : Hid (Calls Tryz.prog 72 #[.pointer (some ⟨b, 0, none⟩), .string sv'] W4 fun e W5 => e = .returned (.tuple #[]) ∧ Hid (Wr B b w0 W1 (X ++ [43] ++ t ++ [61] ++ escV v) W5)) := s2
    clear s1 hrest3 h4 s2
    go_wp2_with fail
    refine s2'.out.mono ?_
    rintro e W5 ⟨rfl, h5⟩
    have HI : Hid (Wr B b w0 wS (l ++ ptx (ps.take (k + 1))) W5) := hend.out W5 h5.out
    clear s2' h5 hend g4
    go_wp2_with fail
    go_roundw
    case rel => exact ⟨k + 1, hlt'.out, by go_num, HI⟩
    case measure => have := hlt'.out; simp [intOf]; omega
  ·have e : n = k := by omega
   subst e
   have i1 : ¬ (n : Int) < (n : Int) := by omega
   have hfin : Hid (Wr B b w0 wS (l ++ ptx ps) wr) := by
    have := hR.out
    rw [List.take_of_length_le (by rw [hn'.out]; exact Nat.le_refl _)] at this
    exact this
   clear hR hk hlt
   go_wp2_with fail
   go_end0
   exact ⟨rfl, hfin.out⟩
end Ke
end Go.Proofs.YtkknenmpdimdbaaGreatDoor

namespace Go.Proofs.YtkknenmpdimdbaaGreatDoor
open Go.RowKit
open TextMath (ld wi seqLen check u)
set_option maxHeartbeats 400000 in
theorem lead_any (b : Int) (w : World) (h0 : 0 ≤ b) (h1 : b ≤ 255) :
  Calls Tryz.prog 85 #[.int .u8 b] w fun e w' => e = .returned (.tuple #[.int .i64 (ld b).1, .int .u8 (ld b).2.1, .int .u8 (ld b).2.2]) ∧ w' = w := by
 unfold ld
 go_enter Tryz.func85, Tryz.ntmps85
 go_wp2
 all_goals
  go_ret3
  refine ⟨?_, rfl⟩
  simp_all <;> omega
set_option maxHeartbeats 400000 in
theorem within_any (b lo hi : Int) (w : World) :
  Calls Tryz.prog 86 #[.int .u8 b, .int .u8 lo, .int .u8 hi] w fun e w' => e = .returned (.bool (wi b lo hi)) ∧ w' = w := by
 unfold wi
 go_enter Tryz.func86, Tryz.ntmps86
 go_wp2
 all_goals
  go_ret
  refine ⟨?_, rfl⟩
  simp_all <;> omega
theorem len_s (s : ByteArray) : (s.data.toList.length : Int) = s.size := by show ((s.data.toList.length : Nat) : Int) = ((s.data.size : Nat) : Int); simp
section
variable (s : ByteArray) (lo hi : Int) (hs : 0 < s.size)
theorem seq0 (hq : ld (u s[0]) = (0, lo, hi)) : (0 : Int) = seqLen s.data.toList := by
 simp only [seqLen, getD_s s 0 hs, hq, len_s]; simp
theorem seq1 (hq : ld (u s[0]) = (1, lo, hi)) : (1 : Int) = seqLen s.data.toList := by
 simp only [seqLen, getD_s s 0 hs, hq, len_s]; simp
 rw [if_neg (by omega)]; rfl
theorem seqS (n : Int) (hq : ld (u s[0]) = (n, lo, hi)) (hl : (s.size : Int) < n) : (0 : Int) = seqLen s.data.toList := by
 simp only [seqLen, getD_s s 0 hs, hq, len_s]
 rw [if_pos hl]; rfl
theorem seq2f (hl : ¬ s.size < 2) (hq : ld (u s[0]) = (2, lo, hi)) (hw : (!wi (s[1].toNat : Int) lo hi) = true) : (0 : Int) = seqLen s.data.toList := by
 simp only [seqLen, getD_s s 0 hs, getD_s s 1 (by omega), hq, len_s]
 rw [if_neg (by omega)]; simp only [Bool.not_eq_true'] at hw; simp [u, hw]
theorem seq2t (hl : ¬ s.size < 2) (hq : ld (u s[0]) = (2, lo, hi)) (hw : (!wi (s[1].toNat : Int) lo hi) = false) : (2 : Int) = seqLen s.data.toList := by
 simp only [seqLen, getD_s s 0 hs, getD_s s 1 (by omega), hq, len_s]
 rw [if_neg (by omega)]; simp only [Bool.not_eq_false'] at hw; simp [u, hw]
theorem seq3f (hl : ¬ s.size < 3) (hq : ld (u s[0]) = (3, lo, hi)) (hw : (!wi (s[2].toNat : Int) 128 191) = true) : (0 : Int) = seqLen s.data.toList := by
 simp only [seqLen, getD_s s 0 hs, getD_s s 1 (by omega), getD_s s 2 (by omega), hq, len_s]
 rw [if_neg (by omega)]; simp only [Bool.not_eq_true'] at hw; simp [u, hw]
theorem seq3g (hl : ¬ s.size < 3) (hq : ld (u s[0]) = (3, lo, hi)) (hw2 : (!wi (s[2].toNat : Int) 128 191) = false) (hw : (!wi (s[1].toNat : Int) lo hi) = true) : (0 : Int) = seqLen s.data.toList := by
 simp only [seqLen, getD_s s 0 hs, getD_s s 1 (by omega), getD_s s 2 (by omega), hq, len_s]
 rw [if_neg (by omega)]; simp only [Bool.not_eq_true', Bool.not_eq_false'] at hw hw2; simp [u, hw, hw2]
theorem seq3t (hl : ¬ s.size < 3) (hq : ld (u s[0]) = (3, lo, hi)) (hw2 : (!wi (s[2].toNat : Int) 128 191) = false) (hw : (!wi (s[1].toNat : Int) lo hi) = false) : (3 : Int) = seqLen s.data.toList := by
 simp only [seqLen, getD_s s 0 hs, getD_s s 1 (by omega), getD_s s 2 (by omega), hq, len_s]
 rw [if_neg (by omega)]; simp only [Bool.not_eq_false'] at hw hw2; simp [u, hw, hw2]
theorem seq4f (hl : ¬ s.size < 4) (hq : ld (u s[0]) = (4, lo, hi)) (hw : (!wi (s[3].toNat : Int) 128 191) = true) : (0 : Int) = seqLen s.data.toList := by
 simp only [seqLen, getD_s s 0 hs, getD_s s 1 (by omega), getD_s s 2 (by omega), getD_s s 3 (by omega), hq, len_s]
 rw [if_neg (by omega)]; simp only [Bool.not_eq_true'] at hw; simp [u, hw]
theorem seq4e (hl : ¬ s.size < 4) (hq : ld (u s[0]) = (4, lo, hi)) (hw3 : (!wi (s[3].toNat : Int) 128 191) = false) (hw : (!wi (s[2].toNat : Int) 128 191) = true) : (0 : Int) = seqLen s.data.toList := by
 simp only [seqLen, getD_s s 0 hs, getD_s s 1 (by omega), getD_s s 2 (by omega), getD_s s 3 (by omega), hq, len_s]
 rw [if_neg (by omega)]; simp only [Bool.not_eq_true', Bool.not_eq_false'] at hw hw3; simp [u, hw, hw3]
theorem seq4g (hl : ¬ s.size < 4) (hq : ld (u s[0]) = (4, lo, hi)) (hw3 : (!wi (s[3].toNat : Int) 128 191) = false) (hw2 : (!wi (s[2].toNat : Int) 128 191) = false) (hw : (!wi (s[1].toNat : Int) lo hi) = true) : (0 : Int) = seqLen s.data.toList := by
 simp only [seqLen, getD_s s 0 hs, getD_s s 1 (by omega), getD_s s 2 (by omega), getD_s s 3 (by omega), hq, len_s]
 rw [if_neg (by omega)]; simp only [Bool.not_eq_true', Bool.not_eq_false'] at hw hw2 hw3; simp [u, hw, hw2, hw3]
theorem seq4t (hl : ¬ s.size < 4) (hq : ld (u s[0]) = (4, lo, hi)) (hw3 : (!wi (s[3].toNat : Int) 128 191) = false) (hw2 : (!wi (s[2].toNat : Int) 128 191) = false) (hw : (!wi (s[1].toNat : Int) lo hi) = false) : (4 : Int) = seqLen s.data.toList := by
 simp only [seqLen, getD_s s 0 hs, getD_s s 1 (by omega), getD_s s 2 (by omega), getD_s s 3 (by omega), hq, len_s]
 rw [if_neg (by omega)]; simp only [Bool.not_eq_false'] at hw hw2 hw3; simp [u, hw, hw2, hw3]
end
set_option maxHeartbeats 1000000 in
theorem sequence_any (s : ByteArray) (w : World) (hs : 0 < s.size) (hm : s.size ≤ maxLen) :
  Calls Tryz.prog 56 #[.string s] w fun e w' => e = .returned (.int .i64 (seqLen s.data.toList)) ∧ w' = w := by
 unfold maxLen at hm
 have hb : s[0].toNat < 256 := s[0].toNat_lt
 have hc := TextMath.ld_cases (u s[0])
 obtain ⟨n, lo, hi, hq⟩ : ∃ n lo hi, ld (u s[0]) = (n, lo, hi) := ⟨_, _, _, rfl⟩
 rw [hq] at hc
 have Hq : Hid (ld (u s[0]) = (n, lo, hi)) := hq
 clear hq
 simp only [] at hc
 by_cases hl : (s.size : Int) < n
 ·rcases hc with rfl | rfl | rfl | rfl | rfl
  ·omega
  ·omega
  all_goals
   go_enter Tryz.func56, Tryz.ntmps56
   go_wp2_with (go_at_call 85; refine (lead_any _ _ ?_ ?_).mono ?_; omega; omega; rintro e w' ⟨rfl, rfl⟩; rw [show ld ↑s[0].toNat = _ from Hq.out])
   go_ret
   exact ⟨ret_int (seqS s lo hi hs _ Hq.out hl), rfl⟩
 rcases hc with rfl | rfl | rfl | rfl | rfl
 all_goals
  go_enter Tryz.func56, Tryz.ntmps56
  go_wp2_with (first | (go_at_call 85; refine (lead_any _ _ ?_ ?_).mono ?_; omega; omega; rintro e w' ⟨rfl, rfl⟩; rw [show ld ↑s[0].toNat = _ from Hq.out]) | (go_at_call 86; refine (within_any _ _ _ _).mono ?_; rintro e w' ⟨rfl, rfl⟩))
  all_goals
   go_ret
   refine ⟨ret_int ?_, rfl⟩
   first
    | exact seq0 s lo hi hs Hq.out
    | exact seq1 s lo hi hs Hq.out
    | exact seq2f s lo hi hs (by omega) Hq.out ‹_›
    | exact seq2t s lo hi hs (by omega) Hq.out ‹_›
    | exact seq3f s lo hi hs (by omega) Hq.out ‹_›
    | exact seq3g s lo hi hs (by omega) Hq.out ‹_› ‹_›
    | exact seq3t s lo hi hs (by omega) Hq.out ‹_› ‹_›
    | exact seq4f s lo hi hs (by omega) Hq.out ‹_›
    | exact seq4e s lo hi hs (by omega) Hq.out ‹_› ‹_›
    | exact seq4g s lo hi hs (by omega) Hq.out ‹_› ‹_› ‹_›
    | exact seq4t s lo hi hs (by omega) Hq.out ‹_› ‹_› ‹_›
end Go.Proofs.YtkknenmpdimdbaaGreatDoor

namespace Go.Proofs.YtkknenmpdimdbaaGreatDoor
open Go.RowKit
open TextMath (ld wi seqLen check u)
def chkV (l : List UInt8) : Value := .tuple #[.int .i64 (if (check l).1 = true then 0 else 10), .int .i64 ((check l).2 : Nat)]
theorem chkV_bad (l : List UInt8) (k : Nat) (hk : k < l.length) (hc : check l = ((check (l.drop k)).1, k + (check (l.drop k)).2)) (h0 : seqLen (l.drop k) = 0) :
  Ending.returned (.tuple #[.int .i64 10, .int .i64 (k : Nat)]) = .returned (chkV l) := by
 rw [TextMath.check_bad (l.drop k) (by simp; omega) h0] at hc
 unfold chkV; rw [hc]; simp
theorem chkV_end (l : List UInt8) (k : Nat) (hk : ¬ k < l.length) (hc : check l = ((check (l.drop k)).1, k + (check (l.drop k)).2)) :
  Ending.returned (.tuple #[.int .i64 0, .int .i64 (k : Nat)]) = .returned (chkV l) := by
 rw [List.drop_eq_nil_of_le (by omega), TextMath.check_nil] at hc
 unfold chkV; rw [hc]; simp
theorem chk_step (l : List UInt8) (k : Nat) (hc : check l = ((check (l.drop k)).1, k + (check (l.drop k)).2)) (h0 : seqLen (l.drop k) ≠ 0) :
  check l = ((check (l.drop (k + seqLen (l.drop k)))).1, k + seqLen (l.drop k) + (check (l.drop (k + seqLen (l.drop k)))).2) := by
 rw [TextMath.check_good (l.drop k) h0, List.drop_drop] at hc
 rw [hc]; simp; omega
set_option maxHeartbeats 400000 in
theorem check_any (s : ByteArray) (w : World) (hm : s.size ≤ maxLen) :
  Calls Tryz.prog 29 #[.string s] w fun e w' => e = .returned (chkV s.data.toList) ∧ w' = w := by
 have hm' := hm
 unfold maxLen at hm
 have hL : Hid (s.data.toList.length = s.size) := by show s.data.toList.length = s.data.size; simp
 go_enter Tryz.func29, Tryz.ntmps29
 go_wp2
 go_loop [4] (fun i => ∃ k : Nat, k ≤ s.size ∧ i = .int .i64 k ∧ Hid (check s.data.toList = ((check (s.data.toList.drop k)).1, k + (check (s.data.toList.drop k)).2))) (fun i => s.size - (intOf i).toNat)
 case atStart => exact ⟨0, Nat.zero_le _, rfl, by unfold Hid; simp⟩
 case round =>
  obtain ⟨k, hk, rfl, hc⟩ := hrel
  by_cases hlt : k < s.size
  ·have hq := TextMath.seqLen_le (s.data.toList.drop k)
   have hq' : seqLen (s.data.toList.drop k) + k ≤ s.size := by rw [List.length_drop, hL.out] at hq; omega
   clear hq
   generalize hn : seqLen (s.data.toList.drop k) = n at *
   have Hn : Hid (seqLen (s.data.toList.drop k) = n) := hn
   clear hn
   by_cases hn0 : n = 0
   ·subst hn0
    go_wp2_with (go_at_call 56; refine (sequence_any _ _ ?_ ?_).mono ?_; simp; omega; simp [maxLen]; omega; rintro e w' ⟨rfl, rfl⟩; rw [drop_l, Hn.out])
    go_ret2
    exact ⟨chkV_bad _ k (by rw [hL.out]; exact hlt) hc.out Hn.out, rfl⟩
   ·have hz : (((n : Nat) : Int) == 0) = false := by simp; omega
    go_wp2_with (go_at_call 56; refine (sequence_any _ _ ?_ ?_).mono ?_; simp; omega; simp [maxLen]; omega; rintro e w' ⟨rfl, rfl⟩; rw [drop_l, Hn.out])
    go_round
    case rel => exact ⟨k + n, by omega, by go_num, by have h := chk_step _ k hc.out (by rw [Hn.out]; exact hn0); rw [Hn.out] at h; exact h⟩
    case measure => simp [intOf]; omega
  ·go_wp2
   go_ret2
   exact ⟨chkV_end _ k (by rw [hL.out]; exact hlt) hc.out, rfl⟩
end Go.Proofs.YtkknenmpdimdbaaGreatDoor

namespace Go.Proofs.YtkknenmpdimdbaaGreatDoor
open Go.RowKit
set_option linter.unusedVariables false
def TRow (w : World) (a : Option Addr) (l : List (List UInt8)) : Prop := ∀ i (hi : i < l.length), ∃ g, a = some ⟨g, 0, none⟩ ∧ w.cell? ⟨g, i, none⟩ = some (.string (S l[i]))
theorem ownS_trow {w : World} {B : Nat} {v : Value} {l : List (List UInt8)} (h : OwnS w B v l) : ∃ a c, v = .slice a l.length c ∧ TRow w a l := by
 rcases ownS_form h with ⟨rfl, rfl⟩ | ⟨g, cap, rfl⟩
 ·exact ⟨none, 0, rfl, fun i hi => by simp at hi⟩
 ·exact ⟨_, _, rfl, fun i hi => ⟨g, rfl, ownS_cell h i hi⟩⟩
theorem TRow.below {w w' : World} {a : Option Addr} {l : List (List UInt8)} (h : TRow w a l) (hb : Below w.heap.size w w') : TRow w' a l := fun i hi => by
 obtain ⟨g, e, h1⟩ := h i hi
 refine ⟨g, e, ?_⟩
 rw [hb.cell (World.block_lt_of_cell? w _ h1)]
 exact h1
def holds (there asked : List (List UInt8)) : Bool := asked.all fun x => decide (x ∈ there)
end Go.Proofs.YtkknenmpdimdbaaGreatDoor

namespace Go.Proofs.YtkknenmpdimdbaaGreatDoor
open Go.RowKit
set_option linter.unusedVariables false
def Row (w : World) (a : Option Addr) (l : List (List UInt8)) : Prop := ∀ i (hi : i < l.length), ∃ b off, a = some ⟨b, off, none⟩ ∧ w.cell? ⟨b, off + i, none⟩ = some (.string (S l[i]))
theorem TRow.drop {w : World} {g : Nat} {l : List (List UInt8)} (h : TRow w (some ⟨g, 0, none⟩) l) (k : Nat) : Row w (some ⟨g, k, none⟩) (l.drop k) := fun i hi => by
 rw [List.length_drop] at hi
 obtain ⟨g', e, h1⟩ := h (k + i) (by omega)
 injection e with e
 injection e with e1
 subst e1
 refine ⟨g, k, rfl, ?_⟩
 rw [h1]
 simp
theorem Row.below {w w' : World} {a : Option Addr} {l : List (List UInt8)} (h : Row w a l) (hb : Below w.heap.size w w') : Row w' a l := fun i hi => by
 obtain ⟨b, off, e, h1⟩ := h i hi
 refine ⟨b, off, e, ?_⟩
 rw [hb.cell (World.block_lt_of_cell? w _ h1)]
 exact h1
end Go.Proofs.YtkknenmpdimdbaaGreatDoor

namespace Go.Proofs.YtkknenmpdimdbaaGreatDoor
namespace DnMath
def Tot {α : Type} (T : α → α → Int) : Prop :=
 (∀ x y, T x y = -1 ∨ T x y = 0 ∨ T x y = 1) ∧ (∀ x y, T x y = 0 ↔ x = y) ∧ (∀ x y, T y x = - T x y) ∧ (∀ x y z, T x y ≤ 0 → T y z ≤ 0 → T x z ≤ 0)
def lx {α : Type} (T : α → α → Int) : List α → List α → Int
 | [], [] => 0
 | [], _ :: _ => -1
 | _ :: _, [] => 1
 | x :: a, y :: b => if T x y = 0 then lx T a b else T x y
variable {α : Type} {T : α → α → Int}
theorem Tot.self (h : Tot T) (x : α) : T x x = 0 := (h.2.1 x x).2 rfl
theorem lx_range (h : Tot T) : ∀ a b, lx T a b = -1 ∨ lx T a b = 0 ∨ lx T a b = 1
 | [], [] => Or.inr (Or.inl rfl)
 | [], _ :: _ => Or.inl rfl
 | _ :: _, [] => Or.inr (Or.inr rfl)
 | x :: a, y :: b => by
  unfold lx
  split
  ·exact lx_range h a b
  ·exact h.1 x y
theorem lx_eq (h : Tot T) : ∀ a b, lx T a b = 0 ↔ a = b
 | [], [] => by simp [lx]
 | [], _ :: _ => by simp [lx]
 | _ :: _, [] => by simp [lx]
 | x :: a, y :: b => by
  unfold lx
  split
  ·rename_i e
   rw [lx_eq h a b, (h.2.1 x y).1 e]
   simp
  ·rename_i e
   have hn : ¬ x = y := fun q => e ((h.2.1 x y).2 q)
   constructor
   ·intro q; exact absurd q e
   ·intro q; injection q with q1 _; exact absurd q1 hn
theorem lx_anti (h : Tot T) : ∀ a b, lx T b a = - lx T a b
 | [], [] => by simp [lx]
 | [], _ :: _ => by simp [lx]
 | _ :: _, [] => by simp [lx]
 | x :: a, y :: b => by
  unfold lx
  have e := h.2.2.1 x y
  by_cases q : T x y = 0
  ·rw [if_pos q, if_pos (by omega)]
   exact lx_anti h a b
  ·rw [if_neg q, if_neg (by omega)]
   exact e
theorem lx_trans (h : Tot T) : ∀ a b c, lx T a b ≤ 0 → lx T b c ≤ 0 → lx T a c ≤ 0
 | [], _, [] => by simp [lx]
 | [], _, _ :: _ => by simp [lx]
 | _ :: _, [], _ => by simp [lx]
 | _ :: _, _ :: _, [] => by simp [lx]
 | x :: a, y :: b, z :: c => by
  unfold lx
  intro h1 h2
  by_cases q : T x y = 0
  ·have e := (h.2.1 x y).1 q
   subst e
   rw [if_pos q] at h1
   by_cases r : T x z = 0
   ·rw [if_pos r] at h2 ⊢
    exact lx_trans h a b c h1 h2
   ·rw [if_neg r] at h2 ⊢
    exact h2
  ·rw [if_neg q] at h1
   by_cases r : T y z = 0
   ·have e := (h.2.1 y z).1 r
    subst e
    rw [if_neg q]
    exact h1
   ·rw [if_neg r] at h2
    have k := h.2.2.2 x y z h1 h2
    have hn : ¬ T x z = 0 := by
     intro e
     have e' := (h.2.1 x z).1 e
     subst e'
     have := h.2.2.1 x y
     omega
    rw [if_neg hn]
    exact k
theorem lx_tot (h : Tot T) : Tot (lx T) := ⟨lx_range h, lx_eq h, fun a b => lx_anti h a b, lx_trans h⟩
theorem lx_front (h : Tot T) (c : List α) : ∀ a, lx T a (a ++ c) = if c = [] then 0 else -1
 | [] => by cases c <;> simp [lx]
 | x :: a => by
  rw [List.cons_append]
  unfold lx
  rw [if_pos (h.self x)]
  exact lx_front h c a
theorem lx_between (h : Tot T) : ∀ (p a b c : List α), lx T (p ++ a) b ≤ 0 → lx T b (p ++ c) ≤ 0 → p <+: b
 | [], _, b, _ => fun _ _ => ⟨b, rfl⟩
 | x :: p, _, [], _ => by
  intro h1 _
  rw [List.cons_append] at h1
  simp [lx] at h1
 | x :: p, a, y :: b, c => by
  intro h1 h2
  rw [List.cons_append] at h1 h2
  unfold lx at h1 h2
  have e := h.2.2.1 x y
  by_cases q : T x y = 0
  ·rw [if_pos q] at h1
   rw [if_pos (by omega)] at h2
   obtain ⟨r, hr⟩ := lx_between h p a b c h1 h2
   have e2 := (h.2.1 x y).1 q
   subst e2
   exact ⟨r, by rw [← hr]; rfl⟩
  ·rw [if_neg q] at h1
   rw [if_neg (by omega)] at h2
   exfalso
   have := h.1 x y
   omega
def tb (x y : UInt8) : Int := if x < y then -1 else if y < x then 1 else 0
theorem tb_tot : Tot tb := by
 have key : ∀ x y : UInt8, (x < y ↔ x.toNat < y.toNat) := fun x y => UInt8.lt_iff_toNat_lt
 refine ⟨?_, ?_, ?_, ?_⟩
 ·intro x y
  unfold tb
  by_cases h1 : x < y
  ·rw [if_pos h1]; omega
  ·rw [if_neg h1]
   by_cases h2 : y < x
   ·rw [if_pos h2]; omega
   ·rw [if_neg h2]; omega
 ·intro x y
  unfold tb
  simp only [key]
  constructor
  ·intro q
   have : x.toNat = y.toNat := by
    by_cases h1 : x.toNat < y.toNat
    ·rw [if_pos h1] at q; omega
    ·rw [if_neg h1] at q
     by_cases h2 : y.toNat < x.toNat
     ·rw [if_pos h2] at q; omega
     ·omega
   exact UInt8.toNat_inj.1 this
  ·rintro rfl; simp
 ·intro x y
  unfold tb
  simp only [key]
  by_cases h1 : x.toNat < y.toNat
  ·rw [if_pos h1, if_neg (by omega), if_pos h1]; rfl
  ·by_cases h2 : y.toNat < x.toNat
   ·rw [if_pos h2, if_neg h1, if_pos h2]
   ·rw [if_neg h2, if_neg h1, if_neg h1, if_neg h2]; rfl
 ·intro x y z
  unfold tb
  simp only [key]
  intro a b
  by_cases h1 : x.toNat < z.toNat
  ·rw [if_pos h1]; omega
  ·by_cases h2 : z.toNat < x.toNat
   ·exfalso
    by_cases h3 : x.toNat < y.toNat
    ·by_cases h4 : y.toNat < z.toNat
     ·omega
     ·rw [if_neg h4, if_pos (by omega)] at b; omega
    ·rw [if_neg h3] at a
     by_cases h4 : y.toNat < x.toNat
     ·rw [if_pos h4] at a; omega
     ·rw [if_neg (by omega), if_pos (by omega)] at b; omega
   ·rw [if_neg h1, if_neg h2]; omega
def tt : List UInt8 → List UInt8 → Int := lx tb
theorem tt_tot : Tot tt := lx_tot tb_tot
def ck : List (List UInt8) → List (List UInt8) → Int := lx tt
theorem ck_tot : Tot ck := lx_tot tt_tot
theorem less_tt : ∀ x y : List UInt8, Op.bytesLess x y = decide (tt x y = -1)
 | [], [] => by simp [Op.bytesLess, tt, lx]
 | _ :: _, [] => by simp [Op.bytesLess, tt, lx]
 | [], _ :: _ => by simp [Op.bytesLess, tt, lx]
 | a :: x, b :: y => by
  have ih := less_tt x y
  have e : tt (a :: x) (b :: y) = if tb a b = 0 then tt x y else tb a b := rfl
  rw [e]
  unfold Op.bytesLess
  by_cases q : tb a b = 0
  ·have hab := (tb_tot.2.1 a b).1 q
   subst hab
   rw [if_pos q, ← ih]
   simp
  ·rw [if_neg q]
   have hab : ¬ a = b := fun z => q ((tb_tot.2.1 a b).2 z)
   unfold tb at q ⊢
   by_cases h1 : a < b
   ·simp [h1]
   ·by_cases h2 : b < a
    ·simp [h1, h2, hab]
    ·simp [h1, h2] at q
end DnMath
end Go.Proofs.YtkknenmpdimdbaaGreatDoor

namespace Go.Proofs.YtkknenmpdimdbaaGreatDoor
open Go.RowKit
theorem ownS_below {w w' : World} {B : Nat} {v : Value} {l : List (List UInt8)} (h : OwnS w B v l) (hb : Below w.heap.size w w') : OwnS w' B v l := by
 rcases h with ⟨h1, ⟨rfl, h2⟩ | ⟨g, cap, cur, rfl, h3, h4, h5⟩⟩
 ·exact ⟨h1, Or.inl ⟨rfl, h2⟩⟩
 ·have hg : g < w.heap.size := by
   rcases Nat.lt_or_ge g w.heap.size with h' | h'
   ·exact h'
   ·rw [Array.getElem?_eq_none h'] at h4; cases h4
  exact ⟨h1, Or.inr ⟨g, cap, cur, rfl, h3, by rw [hb.block g hg]; exact h4, h5⟩⟩
theorem ownS_formD {w : World} {B : Nat} {v : Value} {l : List (List UInt8)} (h : OwnS w B v l) : (v = .slice none 0 0 ∧ l = []) ∨ (∃ g cap, v = .slice (some ⟨g, 0, none⟩) l.length cap ∧ l.length ≤ cap ∧ g < w.heap.size ∧ B ≤ g) := by
 have hl := h.1
 rcases h.2 with ⟨rfl, hn⟩ | ⟨g, cap, cur, rfl, h3, h4, h5, _⟩
 ·exact Or.inl ⟨rfl, List.eq_nil_of_length_eq_zero hn⟩
 ·refine Or.inr ⟨g, cap, rfl, h5, ?_, h3⟩
  rcases Nat.lt_or_ge g w.heap.size with h' | h'
  ·exact h'
  ·rw [Array.getElem?_eq_none h'] at h4; cases h4
theorem Row.drewN {w : World} {a : Option Addr} {l : List (List UInt8)} (h : Row w a l) (k : Nat) : Row (w.drewN k) a l := fun i hi => by
 obtain ⟨b, off, e, h1⟩ := h i hi
 exact ⟨b, off, e, h1⟩
theorem Row.nil (w : World) (a : Option Addr) : Row w a [] := fun i hi => by simp at hi
theorem ownS_row {w : World} {B n c : Nat} {a : Option Addr} {l : List (List UInt8)} (h : OwnS w B (.slice a n c) l) : Row w a l ∧ n = l.length := by
 rcases ownS_formD h with ⟨h1, rfl⟩ | ⟨g, cap, h1, _⟩
 ·injection h1 with h1 h2
  exact ⟨Row.nil _ _, h2⟩
 ·injection h1 with h1 h2 h3
  subst h1 h2 h3
  exact ⟨fun i hi => ⟨g, 0, rfl, by rw [Nat.zero_add]; exact ownS_cell h i hi⟩, rfl⟩
set_option maxRecDepth 100000 in
theorem append_row (w : World) (B : Nat) (v : Value) (l k : List (List UInt8)) (a : Option Addr) (n c : Nat) (hown : OwnS w B v l) (hk : Row w a k) (hn : n = k.length) (hB : B ≤ w.heap.size) (hsz : (l.length + k.length) * 16 ≤ 140737488355328) :
  ∃ v' w', (Builtin.append_ #[36, 36] 36 #[v, .slice a n c]).run Tryz.prog w = .ok v' w' ∧ OwnS w' B v' (l ++ k) ∧ Below B w w' := by
 subst hn
 obtain ⟨i0, hi, hz0, hz1, hz2⟩ := info_parts info_str
 by_cases h0 : k.length = 0
 ·have hk0 := List.eq_nil_of_length_eq_zero h0
  subst hk0
  refine ⟨v, w, ?_, by rw [List.append_nil]; exact hown, Below.refl _ _⟩
  cases a with
  | none =>
   rcases ownS_formD hown with ⟨rfl, rfl⟩ | ⟨g, cap, rfl, hc, _⟩
   ·simp [Builtin.append_, run_underlying Tryz.underlying36, sizeOf, typeInfo, hi, Builtin.lenOf, Builtin.firstCells]
   ·simp [Builtin.append_, run_underlying Tryz.underlying36, sizeOf, typeInfo, hi, Builtin.lenOf, Builtin.firstCells, hc, storeCells]
  | some d =>
   rcases ownS_formD hown with ⟨rfl, rfl⟩ | ⟨g, cap, rfl, hc, _⟩
   ·simp [Builtin.append_, run_underlying Tryz.underlying36, sizeOf, typeInfo, hi, Builtin.lenOf, Builtin.firstCells, loadCells, loadCellsFrom]
   ·simp [Builtin.append_, run_underlying Tryz.underlying36, sizeOf, typeInfo, hi, Builtin.lenOf, Builtin.firstCells, loadCells, loadCellsFrom, hc, storeCells]
 ·obtain ⟨b, off, rfl, _⟩ := hk 0 (by omega)
  have hnews : ∀ j u, (sv k)[j]? = some u → w.cell? ((⟨b, off, none⟩ : Addr).add j) = some u := by
   intro j u hj
   have hjn : j < k.length := by
    rcases Nat.lt_or_ge j k.length with h' | h'
    ·exact h'
    ·rw [List.getElem?_eq_none (by rw [sv_len]; exact h')] at hj; cases hj
   obtain ⟨b', off', e, hc⟩ := hk j hjn
   injection e with e
   injection e with e1 e2
   subst e1 e2
   rw [add_off, hc, ← hj]
   simp [sv, hjn]
  obtain ⟨g, cap, w', hr, h2, h3, _, _⟩ := run_append_lies (P := Tryz.prog) w 36 36 B 9 i0 _ 1 16 Tryz.underlying36 hi hz0 hz1 hz2 rfl (by decide) v l.length (sv l) hown ⟨b, off, none⟩ k.length c (sv k) (by rw [sv_len, Nat.mul_one]) hnews (sv_one _) (by omega) (by unfold maxLen; omega) hsz hB w.heap.size rfl
  refine ⟨_, w', hr, ?_, (Below.refl _ _).grown h3 hB (fun j hj => (World.ownsRow.lt (show w.ownsRow B 9 1 v l.length (sv l) from hown) _ hj).1)⟩
  unfold OwnS
  rw [sv_app, List.length_append]
  exact h2
end Go.Proofs.YtkknenmpdimdbaaGreatDoor

namespace Go.Proofs.YtkknenmpdimdbaaGreatDoor
open Go.RowKit
open DnMath (Tot lx tb tt ck tb_tot tt_tot ck_tot less_tt lx_front lx_between)
set_option linter.unusedVariables false
end Go.Proofs.YtkknenmpdimdbaaGreatDoor

namespace Go.Proofs.YtkknenmpdimdbaaGreatDoor
open Go.RowKit
open DnMath (Tot lx tb tt ck tb_tot tt_tot ck_tot less_tt lx_front lx_between)
set_option linter.unusedVariables false
end Go.Proofs.YtkknenmpdimdbaaGreatDoor

namespace Go.Proofs.YtkknenmpdimdbaaGreatDoor
open Go.RowKit
open DnMath (Tot lx tb tt ck tb_tot tt_tot ck_tot less_tt lx_front lx_between)
set_option linter.unusedVariables false
theorem own_empty (w : World) : OwnS (w.alloc (.cells #[] 9)) w.heap.size (.slice (some ⟨w.heap.size, 0, none⟩) 0 0) [] :=
 ⟨rfl, Or.inr ⟨w.heap.size, 0, #[], rfl, Nat.le_refl _, heap_alloc_new w _, Nat.le_refl _, by unfold maxLen; omega, rfl, rfl⟩⟩
end Go.Proofs.YtkknenmpdimdbaaGreatDoor
