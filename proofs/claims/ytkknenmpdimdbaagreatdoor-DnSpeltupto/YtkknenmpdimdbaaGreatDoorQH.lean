import Derived.Test.YtkknenmpdimdbaaGreatDoorQD
import Derived.Test.YtkknenmpdimdbaaGreatDoorQG
import Derived.Test.YtkknenmpdimdbaaGreatDoorRows
import Derived.Test.YtkknenmpdimdbaaGreatDoorQB
import Derived.Lib.AppendZeros
namespace Go.Proofs.YtkknenmpdimdbaaGreatDoor
namespace Ke
open Go.RowKit
set_option linter.unusedVariables false
set_option maxRecDepth 100000

theorem u8_beq (b k : UInt8) : (b == k) = ((b.toNat : Int) == (k.toNat : Int)) := by
  rw [Bool.eq_iff_iff, beq_iff_eq, beq_iff_eq]
  constructor
  · intro h; rw [h]
  · intro h; exact UInt8.toNat_inj.1 (by omega)
theorem mst_int (n i : Nat) (b : UInt8) : mst n i b = ((b.toNat : Int) == 92 || (b.toNat : Int) == 34 || (b.toNat : Int) == 43 || (b.toNat : Int) == 44 || (b.toNat : Int) == 59 || (b.toNat : Int) == 60 || (b.toNat : Int) == 62 || ((b.toNat : Int) == 35 && decide (i = 0)) || ((b.toNat : Int) == 32 && (decide (i = 0) || decide (i + 1 = n)))) := by
  unfold mst
  rw [u8_beq b 92, u8_beq b 34, u8_beq b 43, u8_beq b 44, u8_beq b 59, u8_beq b 60, u8_beq b 62, u8_beq b 35, u8_beq b 32]
  rfl
set_option maxHeartbeats 1000000 in
theorem must_any (v : ByteArray) (i : Nat) (w : World) (hi : i < v.size) (hs : v.size ≤ 140737488355328) :
    Calls Tryz.prog 100 #[.string v, .int .i64 (i : Int)] w fun e w' => e = .returned (.bool (mst v.size i v[i])) ∧ w' = w := by
  have c5 : (0 : Int) ≤ (i : Int) := by omega
  have c6 : (i : Int) < (v.size : Int) := by omega
  obtain ⟨c, hc⟩ : ∃ c, v[i] = c := ⟨_, rfl⟩
  rw [hc]
  go_enter Tryz.func100, Tryz.ntmps100
  go_wp2_with fail
  all_goals go_ret
  all_goals refine ⟨ret_bool ?_, rfl⟩
  all_goals rw [mst_int]
  all_goals first
    | (simp [*]; done)
    | (rw [Bool.eq_iff_iff]; simp only [Bool.or_eq_true, Bool.and_eq_true, beq_iff_eq, decide_eq_true_eq, beq_eq_false_iff_ne, ne_eq] at *; omega)
theorem escV_snoc (v : ByteArray) (k : Nat) (h : k < v.size) : escF v.size 0 (v.data.toList.take (k + 1)) = escF v.size 0 (v.data.toList.take k) ++ ec v.size k v[k] := by
  rw [take_snoc v k h, escF_snoc]
  have e : (v.data.toList.take k).length = k := by rw [List.length_take, size_l]; omega
  rw [e, Nat.zero_add]
set_option maxHeartbeats 2000000 in
theorem writeEscape_any (B b : Nat) (l : List UInt8) (v : ByteArray) (w : World) (hI : IsB B b l w) (hl : l.length + 3 * v.size ≤ 1000000000000) (hBw : B ≤ w.heap.size) :
    Calls Tryz.prog 72 #[.pointer (some ⟨b, 0, none⟩), .string v] w fun e w' => e = .returned (.tuple #[]) ∧ IsB B b (l ++ escV v.data.toList) w' ∧ Below B w w' ∧ Lr.Kt w w' := by
  have hL : Hid (v.data.toList.length = v.size) := size_l v
  have hI0 : Hid (IsB B b (l ++ escF v.size 0 (v.data.toList.take 0)) w) := by unfold Hid; simpa [escF] using hI
  clear hI
  go_enter Tryz.func72, Tryz.ntmps72
  go_wp2_with fail
  go_loopw [8] (fun i wr => ∃ k : Nat, k ≤ v.size ∧ i = .int .i64 k ∧ Hid (IsB B b (l ++ escF v.size 0 (v.data.toList.take k)) wr ∧ Below B w wr ∧ Lr.Kt w wr)) (fun i _ => v.size - (intOf i).toNat)
  case atStart => exact ⟨0, Nat.zero_le _, rfl, hI0.out, Below.refl _ _, Lr.Kt.refl _⟩
  case round =>
    obtain ⟨k, hk, rfl, hR⟩ := hrel
    clear hI0
    have hlen : Hid ((l ++ escF v.size 0 (v.data.toList.take k)).length + 4 ≤ 1099511627776) := by
      unfold Hid
      have := escF_len v.size (v.data.toList.take k) 0
      rw [List.length_take] at this
      have := hL.out
      rw [List.length_append]
      omega
    by_cases hlt : k < v.size
    · have hsn : Hid (escF v.size 0 (v.data.toList.take (k + 1)) = escF v.size 0 (v.data.toList.take k) ++ ec v.size k v[k]) := escV_snoc v k hlt
      have hm : Hid (∀ w, Calls Tryz.prog 100 #[.string v, .int .i64 (k : Int)] w fun e w' => e = .returned (.bool (mst v.size k v[k])) ∧ w' = w) := fun w => must_any v k w hlt (by omega)
      have hwr : Hid (B ≤ wr.heap.size) := Nat.le_trans hBw hR.out.2.1.size
      have c5 : (0 : Int) ≤ (k : Int) := by omega
      have c6 : (k : Int) < (v.size : Int) := by omega
      obtain ⟨c, hc⟩ : ∃ c, v[k] = c := ⟨_, rfl⟩
      rw [hc] at hsn hm
      have hc256 : c.toNat < 256 := c.toNat_lt
      by_cases h0 : c = 0
      · subst h0
        have he : ec v.size k 0 = [92, 48, 48] := by unfold ec; rw [if_pos rfl]
        rw [he] at hsn
        have hz : ((0 : UInt8).toNat : Int) = 0 := rfl
        rw [hz] at *
        have hws : Hid (Calls Tryz.prog 71 #[.pointer (some ⟨b, 0, none⟩), .string { data := #[92, 48, 48] }] wr fun e w' => e = .returned (.tuple #[.int .i64 3, .nilIface]) ∧ IsB B b (l ++ escF v.size 0 (v.data.toList.take k) ++ [92, 48, 48]) w' ∧ Below B wr w' ∧ Lr.Kt wr w') := Lr.writeStringK_any B b _ _ wr hR.out.1 (by have := hlen.out; simp only [List.length_append] at this ⊢; show _ + 3 ≤ _; omega) hwr.out
        clear hlen hm he hz
        go_wp2_with (go_at_call 71; refine hws.out.mono ?_; rintro e w2 ⟨rfl, hI2, hb2, hk2⟩)
        have HI : Hid (IsB B b (l ++ escF v.size 0 (v.data.toList.take (k + 1))) w2 ∧ Below B w w2 ∧ Lr.Kt w w2) := ⟨by rw [hsn.out, ← List.append_assoc]; exact hI2, hR.out.2.1.trans hb2, hR.out.2.2.trans hk2⟩
        clear hI2 hb2 hk2 hws hsn
        go_roundw
        case rel => exact ⟨k + 1, hlt, by go_num, HI⟩
        case measure => simp [intOf]; omega
      · have hne : ¬ ((c.toNat : Int) = 0) := fun e => h0 (UInt8.toNat_inj.1 (by simpa using e))
        have hne' : ((c.toNat : Int) == 0) = false := by simpa using hne
        by_cases hq : mst v.size k c = true
        · have he : ec v.size k c = [92, c] := by unfold ec; rw [if_neg h0, if_pos hq]
          rw [he] at hsn
          rw [hq] at hm
          have hwb : Hid (Calls Tryz.prog 40 #[.pointer (some ⟨b, 0, none⟩), .int .u8 92] wr fun e w' => e = .returned .nilIface ∧ IsB B b (l ++ escF v.size 0 (v.data.toList.take k) ++ [92]) w' ∧ Below B wr w' ∧ Lr.Kt wr w') := Lr.writeByteK_any B b _ 92 wr hR.out.1 (by have := hlen.out; omega) hwr.out
          have hwc : Hid (∀ w2, IsB B b (l ++ escF v.size 0 (v.data.toList.take k) ++ [92]) w2 → B ≤ w2.heap.size → Calls Tryz.prog 40 #[.pointer (some ⟨b, 0, none⟩), .int .u8 (c.toNat : Int)] w2 fun e w' => e = .returned .nilIface ∧ IsB B b (l ++ escF v.size 0 (v.data.toList.take k) ++ [92] ++ [c]) w' ∧ Below B w2 w' ∧ Lr.Kt w2 w') := fun w2 h1 h2 => Lr.writeByteK_any B b _ c w2 h1 (by have := hlen.out; simp only [List.length_append] at this ⊢; simp; omega) h2
          clear hlen he
          go_wp2_with (go_at_call 100; refine (hm.out _).mono ?_; rintro e w' ⟨rfl, rfl⟩)
          refine hwb.out.mono ?_
          rintro e w2 ⟨rfl, hI2, hb2, hk2⟩
          have hwd : Hid (Calls Tryz.prog 40 #[.pointer (some ⟨b, 0, none⟩), .int .u8 (c.toNat : Int)] w2 fun e w' => e = .returned .nilIface ∧ IsB B b (l ++ escF v.size 0 (v.data.toList.take k) ++ [92] ++ [c]) w' ∧ Below B w2 w' ∧ Lr.Kt w2 w') := hwc.out w2 hI2 (Nat.le_trans hwr.out hb2.size)
          have hR2 : Hid (Below B w w2 ∧ Lr.Kt w w2) := ⟨hR.out.2.1.trans hb2, hR.out.2.2.trans hk2⟩
          clear hI2 hb2 hk2 hwc hwb hR
          go_wp2_with fail
          refine hwd.out.mono ?_
          rintro e w3 ⟨rfl, hI3, hb3, hk3⟩
          have HI : Hid (IsB B b (l ++ escF v.size 0 (v.data.toList.take (k + 1))) w3 ∧ Below B w w3 ∧ Lr.Kt w w3) := ⟨by rw [hsn.out, ← List.append_assoc]; simpa using hI3, hR2.out.1.trans hb3, hR2.out.2.trans hk3⟩
          clear hI3 hb3 hk3 hwd hsn hR2
          go_wp2_with fail
          go_roundw
          case rel => exact ⟨k + 1, hlt, by go_num, HI⟩
          case measure => simp [intOf]; omega
        · have he : ec v.size k c = [c] := by unfold ec; rw [if_neg h0, if_neg hq]
          rw [he] at hsn
          rw [Bool.not_eq_true] at hq
          rw [hq] at hm
          have hwb : Hid (Calls Tryz.prog 40 #[.pointer (some ⟨b, 0, none⟩), .int .u8 (c.toNat : Int)] wr fun e w' => e = .returned .nilIface ∧ IsB B b (l ++ escF v.size 0 (v.data.toList.take k) ++ [c]) w' ∧ Below B wr w' ∧ Lr.Kt wr w') := Lr.writeByteK_any B b _ c wr hR.out.1 (by have := hlen.out; omega) hwr.out
          clear hlen he
          go_wp2_with (first | (go_at_call 100; refine (hm.out _).mono ?_; rintro e w' ⟨rfl, rfl⟩) | (go_at_call 40; refine hwb.out.mono ?_; rintro e w2 ⟨rfl, hI2, hb2, hk2⟩))
          have HI : Hid (IsB B b (l ++ escF v.size 0 (v.data.toList.take (k + 1))) w2 ∧ Below B w w2 ∧ Lr.Kt w w2) := ⟨by rw [hsn.out, ← List.append_assoc]; exact hI2, hR.out.2.1.trans hb2, hR.out.2.2.trans hk2⟩
          clear hI2 hb2 hk2 hwb hsn
          go_roundw
          case rel => exact ⟨k + 1, hlt, by go_num, HI⟩
          case measure => simp [intOf]; omega
    · have hke : k = v.size := by omega
      subst hke
      have HI : Hid (IsB B b (l ++ escV v.data.toList) wr ∧ Below B w wr ∧ Lr.Kt w wr) := by
        refine ⟨?_, hR.out.2⟩
        have := hR.out.1
        rw [List.take_of_length_le (by rw [hL.out]; exact Nat.le_refl _)] at this
        unfold escV
        rw [hL.out]
        exact this
      clear hR hlen
      go_wp2_with fail
      go_end0
      exact ⟨rfl, HI.out⟩
end Ke
end Go.Proofs.YtkknenmpdimdbaaGreatDoor

namespace Go.Proofs.YtkknenmpdimdbaaGreatDoor
namespace Ke
open Go.RowKit
open Du (PRow pV pV_len prow_at)
set_option linter.unusedVariables false
set_option linter.unusedSimpArgs false
set_option maxRecDepth 100000

theorem kt_box {w w' : World} {k : Nat} {cs : Array Value} {t : TypeId} {fz : Nat × Nat} (h : Lr.Kt w w') (hb : w.heap[k]? = some (.cells cs t fz)) (h1 : t ≠ 89) (h2 : t ≠ 5) : w'.heap[k]? = some (.cells cs t fz) :=
  h k _ hb (fun _ _ e => by injection e with _ e _; exact h1 e) (fun _ _ e => by injection e with _ e _; exact h2 e)
def ptW (p : PR) : Nat := p.1.length + 3 * p.2.length + 2
theorem pt1_len (p : PR) : (pt1 p).length + 1 ≤ ptW p := by
  have := escV_len p.2
  unfold pt1 ptW
  simp only [List.length_append, List.length_cons]
  omega
theorem ptT_len (l : List PR) : (ptT l).length ≤ (l.map ptW).sum := by
  induction l with
  | nil => simp [ptT]
  | cons p l ih =>
    have := pt1_len p
    unfold ptT at ih ⊢
    simp only [List.flatMap_cons, List.length_append, List.length_cons, List.map_cons, List.sum_cons]
    omega
theorem ptx_len (l : List PR) : (ptx l).length ≤ (l.map ptW).sum := by
  cases l with
  | nil => simp [ptx]
  | cons p l =>
    have := pt1_len p
    have := ptT_len l
    simp only [ptx, List.length_append, List.map_cons, List.sum_cons]
    omega
theorem sum_take (l : List PR) (i : Nat) : ((l.take i).map ptW).sum ≤ (l.map ptW).sum := by
  have e : (l.map ptW).sum = ((l.take i).map ptW).sum + ((l.drop i).map ptW).sum := by rw [← List.sum_append, ← List.map_append, List.take_append_drop]
  omega
theorem sum_at (l : List PR) (i : Nat) (h : i < l.length) : ((l.take i).map ptW).sum + ptW l[i] ≤ (l.map ptW).sum := by
  have h1 := sum_take l (i + 1)
  rw [List.take_succ_eq_append_getElem h, List.map_append, List.sum_append] at h1
  simpa using h1
theorem isB_below {B b : Nat} {l : List UInt8} {W W' : World} (h : IsB B b l W) (hb : Below W.heap.size W W') : IsB B b l W' := by
  have key : ∀ p, Lib.BuilderAt 89 5 B b p (bv l) W → Lib.BuilderAt 89 5 B b p (bv l) W' := fun p hp => by
    obtain ⟨h1, v, h2, h3, h4⟩ := hp
    have hlt : b < W.heap.size := (Array.getElem?_eq_some_iff.1 h2).1
    exact ⟨h1, v, by rw [hb.block b hlt]; exact h2, Du.owns_same h3 (fun g hg => hb.block g (World.ownsRow.lt h3 g hg).2), h4⟩
  rcases h with h | h
  · exact Or.inl (key _ h)
  · exact Or.inr (key _ h)
/-- What stands while a part is written. -/
def Wr (B b : Nat) (w0 wS : World) (l : List UInt8) (W : World) : Prop := IsB B b l W ∧ Below B w0 W ∧ Lr.Kt wS W ∧ B ≤ w0.heap.size
theorem Wr.below {B b : Nat} {w0 wS : World} {l : List UInt8} {W W' : World} (h : Wr B b w0 wS l W) (hb : Below W.heap.size W W') : Wr B b w0 wS l W' :=
  ⟨isB_below h.1 hb, h.2.1.trans (hb.mono (Nat.le_trans h.2.2.2 h.2.1.size)), h.2.2.1.trans (Lr.Kt.below hb), h.2.2.2⟩
theorem Wr.rebase {B b : Nat} {w0 wS : World} {l : List UInt8} {W : World} (h : Wr B b w0 wS l W) : Wr B b w0 W l W := ⟨h.1, h.2.1, Lr.Kt.refl _, h.2.2.2⟩
theorem Wr.byte {B b : Nat} {w0 wS : World} {l : List UInt8} {W : World} (h : Wr B b w0 wS l W) (c : UInt8) (hl : l.length ≤ 1099511627776) :
    Calls Tryz.prog 40 #[.pointer (some ⟨b, 0, none⟩), .int .u8 (c.toNat : Int)] W fun e w' => e = .returned .nilIface ∧ Wr B b w0 wS (l ++ [c]) w' := by
  refine (Lr.writeByteK_any B b l c W h.1 hl (Nat.le_trans h.2.2.2 h.2.1.size)).mono ?_
  rintro e w' ⟨rfl, h1, h2, h3⟩
  exact ⟨rfl, h1, h.2.1.trans h2, h.2.2.1.trans h3, h.2.2.2⟩
theorem Wr.str {B b : Nat} {w0 wS : World} {l : List UInt8} {W : World} (h : Wr B b w0 wS l W) (s : ByteArray) (hl : l.length + s.size ≤ 1099511627776) :
    Calls Tryz.prog 71 #[.pointer (some ⟨b, 0, none⟩), .string s] W fun e w' => e = .returned (.tuple #[.int .i64 s.size, .nilIface]) ∧ Wr B b w0 wS (l ++ s.data.toList) w' := by
  refine (Lr.writeStringK_any B b l s W h.1 hl (Nat.le_trans h.2.2.2 h.2.1.size)).mono ?_
  rintro e w' ⟨rfl, h1, h2, h3⟩
  exact ⟨rfl, h1, h.2.1.trans h2, h.2.2.1.trans h3, h.2.2.2⟩
theorem Wr.esc {B b : Nat} {w0 wS : World} {l : List UInt8} {W : World} (h : Wr B b w0 wS l W) (s : ByteArray) (hl : l.length + 3 * s.size ≤ 1000000000000) :
    Calls Tryz.prog 72 #[.pointer (some ⟨b, 0, none⟩), .string s] W fun e w' => e = .returned (.tuple #[]) ∧ Wr B b w0 wS (l ++ escV s.data.toList) w' := by
  refine (writeEscape_any B b l s W h.1 hl (Nat.le_trans h.2.2.2 h.2.1.size)).mono ?_
  rintro e w' ⟨rfl, h1, h2, h3⟩
  exact ⟨rfl, h1, h.2.1.trans h2, h.2.2.1.trans h3, h.2.2.2⟩

set_option maxHeartbeats 4000000 in
theorem writePairs_any (B b : Nat) (l : List UInt8) (a : Option Addr) (c n : Nat) (ps : List PR) (w0 wS w : World) (hI : Wr B b w0 wS l w) (hn : ps.length = n) (hr : ∀ W, Below B w0 W → PRow W a ps) (hl : l.length + (ps.map ptW).sum ≤ 1000000000000) (hnb : n ≤ 140737488355328) :
    Calls Tryz.prog 41 #[.pointer (some ⟨b, 0, none⟩), .slice a n c] w fun e w' => e = .returned (.tuple #[]) ∧ Wr B b w0 wS (l ++ ptx ps) w' := by
  have nb : (n : Int) ≤ 140737488355328 := by omega
  have hI0 : Hid (Wr B b w0 wS (l ++ ptx (ps.take 0)) w) := by unfold Hid; simpa [ptx] using hI
  have hn' : Hid (ps.length = n) := hn
  have hr' : Hid (∀ W, Below B w0 W → PRow W a ps) := hr
  have hl' : Hid (l.length + (ps.map ptW).sum ≤ 1000000000000) := hl
  clear hI hn hr hl hnb
  go_enter Tryz.func41, Tryz.ntmps41
  go_wp2_with fail
  go_loopw [8] (fun i wr => ∃ k : Nat, k ≤ n ∧ i = .int .i64 k ∧ Hid (Wr B b w0 wS (l ++ ptx (ps.take k)) wr)) (fun i _ => n - (intOf i).toNat)
  case atStart => exact ⟨0, Nat.zero_le _, rfl, hI0⟩
  case round =>
    obtain ⟨k, hk, rfl, hR⟩ := hrel
    clear hI0
    have k0 : (0 : Int) ≤ (k : Int) := Int.natCast_nonneg _
    by_cases hlt : k < n
    · have k1 : (k : Int) < (n : Int) := Int.ofNat_lt.2 hlt
      have hkP : k < ps.length := by rw [hn'.out]; exact hlt
      obtain ⟨pb, po, rfl, c3, c4⟩ := prow_at (hr'.out wr hR.out.2.1) k hkP
      have hsn : Hid (ptx (ps.take (k + 1)) = ptx (ps.take k) ++ (if k = 0 then pt1 ps[k] else 43 :: pt1 ps[k])) := by
        unfold Hid
        rw [List.take_succ_eq_append_getElem hkP, ptx_snoc]
        congr 1
        by_cases h0 : k = 0
        · subst h0; simp
        · rw [if_neg h0, if_neg (fun e => h0 (by have := congrArg List.length e; rw [List.length_take, List.length_nil] at this; omega))]
      have hlen : Hid ((l ++ ptx (ps.take k)).length + ptW ps[k] ≤ 1000000000000) := by
        have h1 := ptx_len (ps.take k)
        have h2 := sum_at ps k hkP
        have := hl'.out
        unfold Hid
        rw [List.length_append]
        omega
      generalize ps[k] = p at *
      obtain ⟨t, v⟩ := p
      dsimp only at c3 c4
      have hw2 : Hid (t.length + 3 * v.length + 2 + (l ++ ptx (ps.take k)).length ≤ 1000000000000) := by have := hlen.out; unfold Hid; unfold ptW at this; dsimp only at this; omega
      generalize hX : l ++ ptx (ps.take k) = X at *
      obtain ⟨W1, hW1⟩ : ∃ W1, wr.alloc (.cells #[.string (S t), .string (S v)] 64) = W1 := ⟨_, rfl⟩
      have hb1 : Hid (Wr B b w0 wS X W1) := by unfold Hid; rw [← hW1]; exact hR.out.below ((Below.refl _ _).alloc (Nat.le_refl _) _)
      have hx1 : Hid (W1.heap[wr.heap.size]? = some (.cells #[.string (S t), .string (S v)] 64 (0, 0))) := by unfold Hid; rw [← hW1]; exact heap_alloc_new _ _
      have hrest : Hid (∀ Y W2, Y.length ≤ X.length + 1 → Wr B b w0 W1 Y W2 → W2.cell? ⟨wr.heap.size, 0, none⟩ = some (.string (S t)) ∧ Calls Tryz.prog 71 #[.pointer (some ⟨b, 0, none⟩), .string (S t)] W2 fun e W3 => e = .returned (.tuple #[.int .i64 (S t).size, .nilIface]) ∧ Hid (Wr B b w0 W1 (Y ++ t) W3)) := fun Y W2 hY h => by
        refine ⟨by rw [cell_of_row _ _ _ _ _ _ (kt_box h.2.2.1 hx1.out (by decide) (by decide))]; rfl, ?_⟩
        have := h.str (S t) (by rw [S_size]; have := hw2.out; omega)
        rw [S_l] at this
        exact this
      have hrest2 : Hid (∀ Y W2, Y.length ≤ X.length + 1 + t.length → Wr B b w0 W1 Y W2 → Calls Tryz.prog 40 #[.pointer (some ⟨b, 0, none⟩), .int .u8 61] W2 fun e W3 => e = .returned .nilIface ∧ Hid (Wr B b w0 W1 (Y ++ [61]) W3)) := fun Y W2 hY h => h.byte 61 (by have := hw2.out; omega)
      have hrest3 : Hid (∀ Y W2, Y.length ≤ X.length + 2 + t.length → Wr B b w0 W1 Y W2 → W2.cell? ⟨wr.heap.size, 1, none⟩ = some (.string (S v)) ∧ Calls Tryz.prog 72 #[.pointer (some ⟨b, 0, none⟩), .string (S v)] W2 fun e W3 => e = .returned (.tuple #[]) ∧ Hid (Wr B b w0 W1 (Y ++ escV v) W3)) := fun Y W2 hY h => by
        refine ⟨by rw [cell_of_row _ _ _ _ _ _ (kt_box h.2.2.1 hx1.out (by decide) (by decide))]; rfl, ?_⟩
        have := h.esc (S v) (by rw [S_size]; have := hw2.out; omega)
        rw [S_l] at this
        exact this
      have hkS : Hid (Lr.Kt wS W1) := hb1.out.2.2.1
      have hlt' : Hid (k < n) := hlt
      have hlenX : Hid (X.length ≤ 1000000000000) := by have := hw2.out; unfold Hid; omega
      obtain ⟨st, hst⟩ : ∃ st, S t = st := ⟨_, rfl⟩
      obtain ⟨sv', hsv⟩ : ∃ sv', S v = sv' := ⟨_, rfl⟩
      rw [hst] at c3 hW1 hx1 hrest
      rw [hsv] at c4 hW1 hx1 hrest3
      clear hst hsv hlen hw2 hR hk hlt hkP
      by_cases h0 : k = 0
      · have hend : Hid (∀ W, Wr B b w0 W1 (X ++ t ++ [61] ++ escV v) W → Wr B b w0 wS (l ++ ptx (ps.take (k + 1))) W) := fun W h => by
          refine ⟨?_, h.2.1, hkS.out.trans h.2.2.1, h.2.2.2⟩
          have e := hsn.out
          rw [if_pos h0] at e
          rw [e, ← List.append_assoc, hX]
          unfold pt1
          simpa using h.1
        have kp : ¬ (0 : Int) < (k : Int) := by omega
        obtain ⟨g0, s0⟩ := hrest.out X W1 (by omega) hb1.out.rebase
        have s0' : Hid (Calls Tryz.prog 71 #[.pointer (some ⟨b, 0, none⟩), .string st] W1 fun e W3 => e = .returned (.tuple #[.int .i64 st.size, .nilIface]) ∧ Hid (Wr B b w0 W1 (X ++ t) W3)) := s0
        clear s0 hrest hsn hb1 hx1 hkS h0
        go_wp2_with fail
        refine s0'.out.mono ?_
        rintro e W3 ⟨rfl, h3⟩
        have s1 : Hid (Calls Tryz.prog 40 #[.pointer (some ⟨b, 0, none⟩), .int .u8 61] W3 fun e W4 => e = .returned .nilIface ∧ Hid (Wr B b w0 W1 (X ++ t ++ [61]) W4)) := hrest2.out _ W3 (by simp only [List.length_append, List.length_cons, List.length_nil]; omega) h3.out
        clear s0' hrest2 h3 g0
        go_wp2_with fail
        refine s1.out.mono ?_
        rintro e W4 ⟨rfl, h4⟩
        obtain ⟨g4, s2⟩ := hrest3.out _ W4 (by simp only [List.length_append, List.length_cons, List.length_nil]; omega) h4.out
        have s2' : Hid (Calls Tryz.prog 72 #[.pointer (some ⟨b, 0, none⟩), .string sv'] W4 fun e W5 => e = .returned (.tuple #[]) ∧ Hid (Wr B b w0 W1 (X ++ t ++ [61] ++ escV v) W5)) := s2
        clear s1 hrest3 h4 s2
        go_wp2_with fail
        refine s2'.out.mono ?_
        rintro e W5 ⟨rfl, h5⟩
        have HI : Hid (Wr B b w0 wS (l ++ ptx (ps.take (k + 1))) W5) := hend.out W5 h5.out
        clear s2' h5 hend g4
        go_wp2_with fail
        go_roundw
        case rel => exact ⟨k + 1, hlt'.out, by go_num, HI⟩
        case measure => have := hlt'.out; simp [intOf]; omega
      · have hend : Hid (∀ W, Wr B b w0 W1 (X ++ [43] ++ t ++ [61] ++ escV v) W → Wr B b w0 wS (l ++ ptx (ps.take (k + 1))) W) := fun W h => by
          refine ⟨?_, h.2.1, hkS.out.trans h.2.2.1, h.2.2.2⟩
          have e := hsn.out
          rw [if_neg h0] at e
          rw [e, ← List.append_assoc, hX]
          unfold pt1
          simpa using h.1
        have kp : (0 : Int) < (k : Int) := by omega
        have sp : Hid (Calls Tryz.prog 40 #[.pointer (some ⟨b, 0, none⟩), .int .u8 43] W1 fun e W2 => e = .returned .nilIface ∧ Hid (Wr B b w0 W1 (X ++ [43]) W2)) := hb1.out.rebase.byte 43 (by have := hlenX.out; omega)
        clear hsn hb1 hx1 hkS h0
        go_wp2_with fail
        refine sp.out.mono ?_
        rintro e W2 ⟨rfl, h2⟩
        obtain ⟨g0, s0⟩ := hrest.out _ W2 (by simp only [List.length_append, List.length_cons, List.length_nil]; omega) h2.out
        have s0' : Hid (Calls Tryz.prog 71 #[.pointer (some ⟨b, 0, none⟩), .string st] W2 fun e W3 => e = .returned (.tuple #[.int .i64 st.size, .nilIface]) ∧ Hid (Wr B b w0 W1 (X ++ [43] ++ t) W3)) := s0
        clear s0 hrest h2 sp
        go_wp2_with fail
        refine s0'.out.mono ?_
        rintro e W3 ⟨rfl, h3⟩
        have s1 : Hid (Calls Tryz.prog 40 #[.pointer (some ⟨b, 0, none⟩), .int .u8 61] W3 fun e W4 => e = .returned .nilIface ∧ Hid (Wr B b w0 W1 (X ++ [43] ++ t ++ [61]) W4)) := hrest2.out _ W3 (by simp only [List.length_append, List.length_cons, List.length_nil]; omega) h3.out
        clear s0' hrest2 h3 g0
        go_wp2_with fail
        refine s1.out.mono ?_
        rintro e W4 ⟨rfl, h4⟩
        obtain ⟨g4, s2⟩ := hrest3.out _ W4 (by simp only [List.length_append, List.length_cons, List.length_nil]; omega) h4.out
        have s2' : Hid (Calls Tryz.prog 72 #[.pointer (some ⟨b, 0, none⟩), .string sv'] W4 fun e W5 => e = .returned (.tuple #[]) ∧ Hid (Wr B b w0 W1 (X ++ [43] ++ t ++ [61] ++ escV v) W5)) := s2
        clear s1 hrest3 h4 s2
        go_wp2_with fail
        refine s2'.out.mono ?_
        rintro e W5 ⟨rfl, h5⟩
        have HI : Hid (Wr B b w0 wS (l ++ ptx (ps.take (k + 1))) W5) := hend.out W5 h5.out
        clear s2' h5 hend g4
        go_wp2_with fail
        go_roundw
        case rel => exact ⟨k + 1, hlt'.out, by go_num, HI⟩
        case measure => have := hlt'.out; simp [intOf]; omega
    · have e : n = k := by omega
      subst e
      have i1 : ¬ (n : Int) < (n : Int) := by omega
      have hfin : Hid (Wr B b w0 wS (l ++ ptx ps) wr) := by
        have := hR.out
        rw [List.take_of_length_le (by rw [hn'.out]; exact Nat.le_refl _)] at this
        exact this
      clear hR hk hlt
      go_wp2_with fail
      go_end0
      exact ⟨rfl, hfin.out⟩
end Ke
end Go.Proofs.YtkknenmpdimdbaaGreatDoor

namespace Go.Proofs.YtkknenmpdimdbaaGreatDoor
open Go.RowKit
open TextMath (ld wi seqLen check u)

set_option maxHeartbeats 400000 in
theorem lead_any (b : Int) (w : World) (h0 : 0 ≤ b) (h1 : b ≤ 255) :
    Calls Tryz.prog 85 #[.int .u8 b] w fun e w' => e = .returned (.tuple #[.int .i64 (ld b).1, .int .u8 (ld b).2.1, .int .u8 (ld b).2.2]) ∧ w' = w := by
  unfold ld
  go_enter Tryz.func85, Tryz.ntmps85
  go_wp2
  all_goals
    go_ret3
    refine ⟨?_, rfl⟩
    simp_all <;> omega

set_option maxHeartbeats 400000 in
theorem within_any (b lo hi : Int) (w : World) :
    Calls Tryz.prog 86 #[.int .u8 b, .int .u8 lo, .int .u8 hi] w fun e w' => e = .returned (.bool (wi b lo hi)) ∧ w' = w := by
  unfold wi
  go_enter Tryz.func86, Tryz.ntmps86
  go_wp2
  all_goals
    go_ret
    refine ⟨?_, rfl⟩
    simp_all <;> omega

theorem len_s (s : ByteArray) : (s.data.toList.length : Int) = s.size := by show ((s.data.toList.length : Nat) : Int) = ((s.data.size : Nat) : Int); simp

section
variable (s : ByteArray) (lo hi : Int) (hs : 0 < s.size)
theorem seq0 (hq : ld (u s[0]) = (0, lo, hi)) : (0 : Int) = seqLen s.data.toList := by
  simp only [seqLen, getD_s s 0 hs, hq, len_s]; simp
theorem seq1 (hq : ld (u s[0]) = (1, lo, hi)) : (1 : Int) = seqLen s.data.toList := by
  simp only [seqLen, getD_s s 0 hs, hq, len_s]; simp
  rw [if_neg (by omega)]; rfl
theorem seqS (n : Int) (hq : ld (u s[0]) = (n, lo, hi)) (hl : (s.size : Int) < n) : (0 : Int) = seqLen s.data.toList := by
  simp only [seqLen, getD_s s 0 hs, hq, len_s]
  rw [if_pos hl]; rfl
theorem seq2f (hl : ¬ s.size < 2) (hq : ld (u s[0]) = (2, lo, hi)) (hw : (!wi (s[1].toNat : Int) lo hi) = true) : (0 : Int) = seqLen s.data.toList := by
  simp only [seqLen, getD_s s 0 hs, getD_s s 1 (by omega), hq, len_s]
  rw [if_neg (by omega)]; simp only [Bool.not_eq_true'] at hw; simp [u, hw]
theorem seq2t (hl : ¬ s.size < 2) (hq : ld (u s[0]) = (2, lo, hi)) (hw : (!wi (s[1].toNat : Int) lo hi) = false) : (2 : Int) = seqLen s.data.toList := by
  simp only [seqLen, getD_s s 0 hs, getD_s s 1 (by omega), hq, len_s]
  rw [if_neg (by omega)]; simp only [Bool.not_eq_false'] at hw; simp [u, hw]
theorem seq3f (hl : ¬ s.size < 3) (hq : ld (u s[0]) = (3, lo, hi)) (hw : (!wi (s[2].toNat : Int) 128 191) = true) : (0 : Int) = seqLen s.data.toList := by
  simp only [seqLen, getD_s s 0 hs, getD_s s 1 (by omega), getD_s s 2 (by omega), hq, len_s]
  rw [if_neg (by omega)]; simp only [Bool.not_eq_true'] at hw; simp [u, hw]
theorem seq3g (hl : ¬ s.size < 3) (hq : ld (u s[0]) = (3, lo, hi)) (hw2 : (!wi (s[2].toNat : Int) 128 191) = false) (hw : (!wi (s[1].toNat : Int) lo hi) = true) : (0 : Int) = seqLen s.data.toList := by
  simp only [seqLen, getD_s s 0 hs, getD_s s 1 (by omega), getD_s s 2 (by omega), hq, len_s]
  rw [if_neg (by omega)]; simp only [Bool.not_eq_true', Bool.not_eq_false'] at hw hw2; simp [u, hw, hw2]
theorem seq3t (hl : ¬ s.size < 3) (hq : ld (u s[0]) = (3, lo, hi)) (hw2 : (!wi (s[2].toNat : Int) 128 191) = false) (hw : (!wi (s[1].toNat : Int) lo hi) = false) : (3 : Int) = seqLen s.data.toList := by
  simp only [seqLen, getD_s s 0 hs, getD_s s 1 (by omega), getD_s s 2 (by omega), hq, len_s]
  rw [if_neg (by omega)]; simp only [Bool.not_eq_false'] at hw hw2; simp [u, hw, hw2]
theorem seq4f (hl : ¬ s.size < 4) (hq : ld (u s[0]) = (4, lo, hi)) (hw : (!wi (s[3].toNat : Int) 128 191) = true) : (0 : Int) = seqLen s.data.toList := by
  simp only [seqLen, getD_s s 0 hs, getD_s s 1 (by omega), getD_s s 2 (by omega), getD_s s 3 (by omega), hq, len_s]
  rw [if_neg (by omega)]; simp only [Bool.not_eq_true'] at hw; simp [u, hw]
theorem seq4e (hl : ¬ s.size < 4) (hq : ld (u s[0]) = (4, lo, hi)) (hw3 : (!wi (s[3].toNat : Int) 128 191) = false) (hw : (!wi (s[2].toNat : Int) 128 191) = true) : (0 : Int) = seqLen s.data.toList := by
  simp only [seqLen, getD_s s 0 hs, getD_s s 1 (by omega), getD_s s 2 (by omega), getD_s s 3 (by omega), hq, len_s]
  rw [if_neg (by omega)]; simp only [Bool.not_eq_true', Bool.not_eq_false'] at hw hw3; simp [u, hw, hw3]
theorem seq4g (hl : ¬ s.size < 4) (hq : ld (u s[0]) = (4, lo, hi)) (hw3 : (!wi (s[3].toNat : Int) 128 191) = false) (hw2 : (!wi (s[2].toNat : Int) 128 191) = false) (hw : (!wi (s[1].toNat : Int) lo hi) = true) : (0 : Int) = seqLen s.data.toList := by
  simp only [seqLen, getD_s s 0 hs, getD_s s 1 (by omega), getD_s s 2 (by omega), getD_s s 3 (by omega), hq, len_s]
  rw [if_neg (by omega)]; simp only [Bool.not_eq_true', Bool.not_eq_false'] at hw hw2 hw3; simp [u, hw, hw2, hw3]
theorem seq4t (hl : ¬ s.size < 4) (hq : ld (u s[0]) = (4, lo, hi)) (hw3 : (!wi (s[3].toNat : Int) 128 191) = false) (hw2 : (!wi (s[2].toNat : Int) 128 191) = false) (hw : (!wi (s[1].toNat : Int) lo hi) = false) : (4 : Int) = seqLen s.data.toList := by
  simp only [seqLen, getD_s s 0 hs, getD_s s 1 (by omega), getD_s s 2 (by omega), getD_s s 3 (by omega), hq, len_s]
  rw [if_neg (by omega)]; simp only [Bool.not_eq_false'] at hw hw2 hw3; simp [u, hw, hw2, hw3]
end

set_option maxHeartbeats 1000000 in
theorem sequence_any (s : ByteArray) (w : World) (hs : 0 < s.size) (hm : s.size ≤ maxLen) :
    Calls Tryz.prog 56 #[.string s] w fun e w' => e = .returned (.int .i64 (seqLen s.data.toList)) ∧ w' = w := by
  unfold maxLen at hm
  have hb : s[0].toNat < 256 := s[0].toNat_lt
  have hc := TextMath.ld_cases (u s[0])
  obtain ⟨n, lo, hi, hq⟩ : ∃ n lo hi, ld (u s[0]) = (n, lo, hi) := ⟨_, _, _, rfl⟩
  rw [hq] at hc
  have Hq : Hid (ld (u s[0]) = (n, lo, hi)) := hq
  clear hq
  simp only [] at hc
  by_cases hl : (s.size : Int) < n
  · rcases hc with rfl | rfl | rfl | rfl | rfl
    · omega
    · omega
    all_goals
      go_enter Tryz.func56, Tryz.ntmps56
      go_wp2_with (go_at_call 85; refine (lead_any _ _ ?_ ?_).mono ?_; omega; omega; rintro e w' ⟨rfl, rfl⟩; rw [show ld ↑s[0].toNat = _ from Hq.out])
      go_ret
      exact ⟨ret_int (seqS s lo hi hs _ Hq.out hl), rfl⟩
  rcases hc with rfl | rfl | rfl | rfl | rfl
  all_goals
    go_enter Tryz.func56, Tryz.ntmps56
    go_wp2_with (first | (go_at_call 85; refine (lead_any _ _ ?_ ?_).mono ?_; omega; omega; rintro e w' ⟨rfl, rfl⟩; rw [show ld ↑s[0].toNat = _ from Hq.out]) | (go_at_call 86; refine (within_any _ _ _ _).mono ?_; rintro e w' ⟨rfl, rfl⟩))
    all_goals
      go_ret
      refine ⟨ret_int ?_, rfl⟩
      first
        | exact seq0 s lo hi hs Hq.out
        | exact seq1 s lo hi hs Hq.out
        | exact seq2f s lo hi hs (by omega) Hq.out ‹_›
        | exact seq2t s lo hi hs (by omega) Hq.out ‹_›
        | exact seq3f s lo hi hs (by omega) Hq.out ‹_›
        | exact seq3g s lo hi hs (by omega) Hq.out ‹_› ‹_›
        | exact seq3t s lo hi hs (by omega) Hq.out ‹_› ‹_›
        | exact seq4f s lo hi hs (by omega) Hq.out ‹_›
        | exact seq4e s lo hi hs (by omega) Hq.out ‹_› ‹_›
        | exact seq4g s lo hi hs (by omega) Hq.out ‹_› ‹_› ‹_›
        | exact seq4t s lo hi hs (by omega) Hq.out ‹_› ‹_› ‹_›
end Go.Proofs.YtkknenmpdimdbaaGreatDoor

namespace Go.Proofs.YtkknenmpdimdbaaGreatDoor
open Go.RowKit
open TextMath (ld wi seqLen check u)

/-- What Check answers of a text. -/
def chkV (l : List UInt8) : Value := .tuple #[.int .i64 (if (check l).1 = true then 0 else 10), .int .i64 ((check l).2 : Nat)]

theorem chkV_bad (l : List UInt8) (k : Nat) (hk : k < l.length) (hc : check l = ((check (l.drop k)).1, k + (check (l.drop k)).2)) (h0 : seqLen (l.drop k) = 0) :
    Ending.returned (.tuple #[.int .i64 10, .int .i64 (k : Nat)]) = .returned (chkV l) := by
  rw [TextMath.check_bad (l.drop k) (by simp; omega) h0] at hc
  unfold chkV; rw [hc]; simp
theorem chkV_end (l : List UInt8) (k : Nat) (hk : ¬ k < l.length) (hc : check l = ((check (l.drop k)).1, k + (check (l.drop k)).2)) :
    Ending.returned (.tuple #[.int .i64 0, .int .i64 (k : Nat)]) = .returned (chkV l) := by
  rw [List.drop_eq_nil_of_le (by omega), TextMath.check_nil] at hc
  unfold chkV; rw [hc]; simp
theorem chk_step (l : List UInt8) (k : Nat) (hc : check l = ((check (l.drop k)).1, k + (check (l.drop k)).2)) (h0 : seqLen (l.drop k) ≠ 0) :
    check l = ((check (l.drop (k + seqLen (l.drop k)))).1, k + seqLen (l.drop k) + (check (l.drop (k + seqLen (l.drop k)))).2) := by
  rw [TextMath.check_good (l.drop k) h0, List.drop_drop] at hc
  rw [hc]; simp; omega

set_option maxHeartbeats 400000 in
theorem check_any (s : ByteArray) (w : World) (hm : s.size ≤ maxLen) :
    Calls Tryz.prog 29 #[.string s] w fun e w' => e = .returned (chkV s.data.toList) ∧ w' = w := by
  have hm' := hm
  unfold maxLen at hm
  have hL : Hid (s.data.toList.length = s.size) := by show s.data.toList.length = s.data.size; simp
  go_enter Tryz.func29, Tryz.ntmps29
  go_wp2
  go_loop [4] (fun i => ∃ k : Nat, k ≤ s.size ∧ i = .int .i64 k ∧ Hid (check s.data.toList = ((check (s.data.toList.drop k)).1, k + (check (s.data.toList.drop k)).2))) (fun i => s.size - (intOf i).toNat)
  case atStart => exact ⟨0, Nat.zero_le _, rfl, by unfold Hid; simp⟩
  case round =>
    obtain ⟨k, hk, rfl, hc⟩ := hrel
    by_cases hlt : k < s.size
    · have hq := TextMath.seqLen_le (s.data.toList.drop k)
      have hq' : seqLen (s.data.toList.drop k) + k ≤ s.size := by rw [List.length_drop, hL.out] at hq; omega
      clear hq
      generalize hn : seqLen (s.data.toList.drop k) = n at *
      have Hn : Hid (seqLen (s.data.toList.drop k) = n) := hn
      clear hn
      by_cases hn0 : n = 0
      · subst hn0
        go_wp2_with (go_at_call 56; refine (sequence_any _ _ ?_ ?_).mono ?_; simp; omega; simp [maxLen]; omega; rintro e w' ⟨rfl, rfl⟩; rw [drop_l, Hn.out])
        go_ret2
        exact ⟨chkV_bad _ k (by rw [hL.out]; exact hlt) hc.out Hn.out, rfl⟩
      · have hz : (((n : Nat) : Int) == 0) = false := by simp; omega
        go_wp2_with (go_at_call 56; refine (sequence_any _ _ ?_ ?_).mono ?_; simp; omega; simp [maxLen]; omega; rintro e w' ⟨rfl, rfl⟩; rw [drop_l, Hn.out])
        go_round
        case rel => exact ⟨k + n, by omega, by go_num, by have h := chk_step _ k hc.out (by rw [Hn.out]; exact hn0); rw [Hn.out] at h; exact h⟩
        case measure => simp [intOf]; omega
    · go_wp2
      go_ret2
      exact ⟨chkV_end _ k (by rw [hL.out]; exact hlt) hc.out, rfl⟩
end Go.Proofs.YtkknenmpdimdbaaGreatDoor

namespace Go.Proofs.YtkknenmpdimdbaaGreatDoor
open Go.RowKit
open DnMath (Tot lx tb tt ck tb_tot tt_tot ck_tot less_tt lx_front lx_between)
set_option linter.unusedVariables false

theorem toList_S (x : List UInt8) : (S x).toList = x := by rw [Lib.toList_data, S_l]
theorem ck_step (l k : List (List UInt8)) (i : Nat) (h1 : i < l.length) (h2 : i < k.length) : ck (l.drop i) (k.drop i) = if tt l[i] k[i] = 0 then ck (l.drop (i + 1)) (k.drop (i + 1)) else tt l[i] k[i] := by
  rw [List.drop_eq_getElem_cons h1, List.drop_eq_getElem_cons h2]
  rfl

end Go.Proofs.YtkknenmpdimdbaaGreatDoor

namespace Go.Proofs.YtkknenmpdimdbaaGreatDoor
open Go.RowKit
open DnMath (Tot lx tb tt ck tb_tot tt_tot ck_tot less_tt lx_front lx_between)
set_option linter.unusedVariables false

theorem take_step {l k : List (List UInt8)} {i : Nat} (h : l.take i = k.take i) (h1 : i < l.length) (h2 : i < k.length) (e : l[i] = k[i]) : l.take (i + 1) = k.take (i + 1) := by
  rw [List.take_succ_eq_append_getElem h1, List.take_succ_eq_append_getElem h2, h, e]
theorem ne_at {l k : List (List UInt8)} {i : Nat} (h1 : i < l.length) (h2 : i < k.length) (e : ¬ l[i] = k[i]) : ¬ l = k := by
  intro q; subst q; exact e rfl
theorem not_front {l k : List (List UInt8)} {i : Nat} (h1 : i < l.length) (h2 : i < k.length) (e : ¬ l[i] = k[i]) : ¬ l <+: k := by
  rintro ⟨r, rfl⟩
  exact e (by rw [List.getElem_append_left h1])
theorem whole_eq {l k : List (List UInt8)} (h : l.take l.length = k.take l.length) (e : l.length = k.length) : l = k := by
  rw [List.take_length, e, List.take_length] at h
  exact h
theorem whole_front {l k : List (List UInt8)} (h : l.take l.length = k.take l.length) : l <+: k := by
  rw [List.take_length] at h
  rw [h]
  exact List.take_prefix _ _
theorem str_ne {x y : List UInt8} (h : ¬ x = y) : ((S x).toList == (S y).toList) = false := by
  rw [toList_S, toList_S]
  simp [h]

set_option maxHeartbeats 1000000 in
theorem sameTexts_loop (l k : List (List UInt8)) (a b : Option Addr) (c d : Nat) (w : World) (hl : l.length ≤ 9223372036854775807) (hk : k.length ≤ 9223372036854775807) (hlen : l.length = k.length) (h1 : Row w a l) (h2 : Row w b k) :
    Calls Tryz.prog 15 #[.slice a l.length c, .slice b k.length d] w fun e w' => e = .returned (.bool (decide (l = k))) ∧ ∃ q, w' = w.drewN q := by
  have hlen' : Hid (l.length = k.length) := hlen
  have hb0 : ((l.length : Int) != (k.length : Int)) = false := by rw [hlen]; simp
  go_enter Tryz.func15, Tryz.ntmps15
  clear hlen
  go_wp2_with fail
  go_loopw [5] (fun iv wr => ∃ i q : Nat, i ≤ l.length ∧ iv = .int .i64 (i : Int) ∧ Hid (l.take i = k.take i) ∧ Hid (wr = w.drewN q)) (fun iv _ => l.length - (intOf iv).toNat)
  case atStart => exact ⟨0, 0, Nat.zero_le _, rfl, by unfold Hid; simp, rfl⟩
  case round =>
    obtain ⟨i, q, hi, rfl, htk, hw⟩ := hrel
    have hlen := hlen'.out
    by_cases hlt : i < l.length
    · have hlk : i < k.length := by omega
      obtain ⟨b1, o1, rfl, c1⟩ := h1 i hlt
      obtain ⟨b2, o2, rfl, c2⟩ := h2 i hlk
      have hE : ∀ a, wr.cell? a = w.cell? a := fun a => by rw [hw.out]; rfl
      rw [← hE] at c1 c2
      have i0 : (0 : Int) ≤ (i : Int) := Int.natCast_nonneg _
      have i1 : (i : Int) < (l.length : Int) := Int.ofNat_lt.2 hlt
      have i2 : (i : Int) < (k.length : Int) := Int.ofNat_lt.2 hlk
      by_cases hx : l[i] = k[i]
      · have htk' : Hid (l.take (i + 1) = k.take (i + 1)) := take_step htk.out hlt hlk hx
        rw [← hx] at c2
        generalize S l[i] = X at *
        clear hE hx hlen h1 h2
        go_wp2_with fail
        go_quiet (fail)
        go_wp2_with fail
        go_roundw
        case rel => exact ⟨i + 1, _, hlt, by simp, htk', by unfold Hid; rw [hw.out, World.drewN_drewN]⟩
        case measure => simp [intOf]; omega
      · have hne := str_ne hx
        have hno : Hid (¬ l = k) := ne_at hlt hlk hx
        generalize S l[i] = X at *
        generalize S k[i] = Y at *
        clear hE hx hlen h1 h2
        go_wp2_with fail
        go_quiet (fail)
        go_wp2_with fail
        go_ret
        exact ⟨by rw [decide_eq_false hno.out]; rfl, _, by rw [hw.out, World.drewN_drewN]⟩
    · have hle : i = l.length := by omega
      subst hle
      have hyes : Hid (l = k) := (whole_eq htk.out hlen)
      clear h1 h2 hlen
      go_wp2_with fail
      go_ret
      exact ⟨by rw [decide_eq_true hyes.out]; rfl, q, hw.out⟩

set_option maxHeartbeats 400000 in
theorem sameTexts_any (l k : List (List UInt8)) (a b : Option Addr) (c d : Nat) (w : World) (hl : l.length ≤ 9223372036854775807) (hk : k.length ≤ 9223372036854775807) (h1 : Row w a l) (h2 : Row w b k) :
    Calls Tryz.prog 15 #[.slice a l.length c, .slice b k.length d] w fun e w' => e = .returned (.bool (decide (l = k))) ∧ ∃ q, w' = w.drewN q := by
  by_cases hlen : l.length = k.length
  · exact sameTexts_loop l k a b c d w hl hk hlen h1 h2
  · have hno : Hid (¬ l = k) := fun q => hlen (by rw [q])
    have hb0 : ((l.length : Int) != (k.length : Int)) = true := by simp; omega
    clear hlen h1 h2
    go_enter Tryz.func15, Tryz.ntmps15
    go_wp2_with fail
    go_ret
    exact ⟨by rw [decide_eq_false hno.out]; rfl, 0, rfl⟩

end Go.Proofs.YtkknenmpdimdbaaGreatDoor

namespace Go.Proofs.YtkknenmpdimdbaaGreatDoor
open Go.RowKit
open DnMath (Tot lx tb tt ck tb_tot tt_tot ck_tot less_tt lx_front lx_between)
set_option linter.unusedVariables false

/-- The mark behind a copy. -/
def spr : List UInt8 := [115, 112, 97, 114, 101, 32, 114, 111, 111, 109]
/-- A list that has just been laid, without a text in it. -/
theorem own_empty (w : World) : OwnS (w.alloc (.cells #[] 9)) w.heap.size (.slice (some ⟨w.heap.size, 0, none⟩) 0 0) [] :=
  ⟨rfl, Or.inr ⟨w.heap.size, 0, #[], rfl, Nat.le_refl _, heap_alloc_new w _, Nat.le_refl _, by unfold maxLen; omega, rfl, rfl⟩⟩

end Go.Proofs.YtkknenmpdimdbaaGreatDoor
