import Derived.Test.YtkknenmpdimdbaaDoorKeN
import Derived.Test.YtkknenmpdimdbaaDoorLrW
namespace Go.Proofs.YtkknenmpdimdbaaDoor
namespace Ke
open Go.RowKit
set_option linter.unusedVariables false
set_option maxRecDepth 100000

theorem u8_beq (b k : UInt8) : (b == k) = ((b.toNat : Int) == (k.toNat : Int)) := by
  rw [Bool.eq_iff_iff, beq_iff_eq, beq_iff_eq]
  constructor
  · intro h; rw [h]
  · intro h; exact UInt8.toNat_inj.1 (by omega)
theorem mst_int (n i : Nat) (b : UInt8) : mst n i b = ((b.toNat : Int) == 92 || (b.toNat : Int) == 34 || (b.toNat : Int) == 43 || (b.toNat : Int) == 44 || (b.toNat : Int) == 59 || (b.toNat : Int) == 60 || (b.toNat : Int) == 62 || ((b.toNat : Int) == 35 && decide (i = 0)) || ((b.toNat : Int) == 32 && (decide (i = 0) || decide (i + 1 = n)))) := by
  unfold mst
  rw [u8_beq b 92, u8_beq b 34, u8_beq b 43, u8_beq b 44, u8_beq b 59, u8_beq b 60, u8_beq b 62, u8_beq b 35, u8_beq b 32]
  rfl
set_option maxHeartbeats 1000000 in
theorem must_any (v : ByteArray) (i : Nat) (w : World) (hi : i < v.size) (hs : v.size ≤ 140737488355328) :
    Calls Tryd.prog 52 #[.string v, .int .i64 (i : Int)] w fun e w' => e = .returned (.bool (mst v.size i v[i])) ∧ w' = w := by
  have c5 : (0 : Int) ≤ (i : Int) := by omega
  have c6 : (i : Int) < (v.size : Int) := by omega
  obtain ⟨c, hc⟩ : ∃ c, v[i] = c := ⟨_, rfl⟩
  rw [hc]
  go_enter Tryd.func52, Tryd.ntmps52
  go_wp2_with fail
  all_goals go_ret
  all_goals refine ⟨ret_bool ?_, rfl⟩
  all_goals rw [mst_int]
  all_goals first
    | (simp [*]; done)
    | (rw [Bool.eq_iff_iff]; simp only [Bool.or_eq_true, Bool.and_eq_true, beq_iff_eq, decide_eq_true_eq, beq_eq_false_iff_ne, ne_eq] at *; omega)
theorem escV_snoc (v : ByteArray) (k : Nat) (h : k < v.size) : escF v.size 0 (v.data.toList.take (k + 1)) = escF v.size 0 (v.data.toList.take k) ++ ec v.size k v[k] := by
  rw [take_snoc v k h, escF_snoc]
  have e : (v.data.toList.take k).length = k := by rw [List.length_take, size_l]; omega
  rw [e, Nat.zero_add]
set_option maxHeartbeats 2000000 in
theorem writeEscape_any (B b : Nat) (l : List UInt8) (v : ByteArray) (w : World) (hI : IsB B b l w) (hl : l.length + 3 * v.size ≤ 1000000000000) (hBw : B ≤ w.heap.size) :
    Calls Tryd.prog 34 #[.pointer (some ⟨b, 0, none⟩), .string v] w fun e w' => e = .returned (.tuple #[]) ∧ IsB B b (l ++ escV v.data.toList) w' ∧ Below B w w' ∧ Lr.Kt w w' := by
  have hL : Hid (v.data.toList.length = v.size) := size_l v
  have hI0 : Hid (IsB B b (l ++ escF v.size 0 (v.data.toList.take 0)) w) := by unfold Hid; simpa [escF] using hI
  clear hI
  go_enter Tryd.func34, Tryd.ntmps34
  go_wp2_with fail
  go_loopw [8] (fun i wr => ∃ k : Nat, k ≤ v.size ∧ i = .int .i64 k ∧ Hid (IsB B b (l ++ escF v.size 0 (v.data.toList.take k)) wr ∧ Below B w wr ∧ Lr.Kt w wr)) (fun i _ => v.size - (intOf i).toNat)
  case atStart => exact ⟨0, Nat.zero_le _, rfl, hI0.out, Below.refl _ _, Lr.Kt.refl _⟩
  case round =>
    obtain ⟨k, hk, rfl, hR⟩ := hrel
    clear hI0
    have hlen : Hid ((l ++ escF v.size 0 (v.data.toList.take k)).length + 4 ≤ 1099511627776) := by
      unfold Hid
      have := escF_len v.size (v.data.toList.take k) 0
      rw [List.length_take] at this
      have := hL.out
      rw [List.length_append]
      omega
    by_cases hlt : k < v.size
    · have hsn : Hid (escF v.size 0 (v.data.toList.take (k + 1)) = escF v.size 0 (v.data.toList.take k) ++ ec v.size k v[k]) := escV_snoc v k hlt
      have hm : Hid (∀ w, Calls Tryd.prog 52 #[.string v, .int .i64 (k : Int)] w fun e w' => e = .returned (.bool (mst v.size k v[k])) ∧ w' = w) := fun w => must_any v k w hlt (by omega)
      have hwr : Hid (B ≤ wr.heap.size) := Nat.le_trans hBw hR.out.2.1.size
      have c5 : (0 : Int) ≤ (k : Int) := by omega
      have c6 : (k : Int) < (v.size : Int) := by omega
      obtain ⟨c, hc⟩ : ∃ c, v[k] = c := ⟨_, rfl⟩
      rw [hc] at hsn hm
      have hc256 : c.toNat < 256 := c.toNat_lt
      by_cases h0 : c = 0
      · subst h0
        have he : ec v.size k 0 = [92, 48, 48] := by unfold ec; rw [if_pos rfl]
        rw [he] at hsn
        have hz : ((0 : UInt8).toNat : Int) = 0 := rfl
        rw [hz] at *
        have hws : Hid (Calls Tryd.prog 33 #[.pointer (some ⟨b, 0, none⟩), .string { data := #[92, 48, 48] }] wr fun e w' => e = .returned (.tuple #[.int .i64 3, .nilIface]) ∧ IsB B b (l ++ escF v.size 0 (v.data.toList.take k) ++ [92, 48, 48]) w' ∧ Below B wr w' ∧ Lr.Kt wr w') := Lr.writeStringK_any B b _ _ wr hR.out.1 (by have := hlen.out; simp only [List.length_append] at this ⊢; show _ + 3 ≤ _; omega) hwr.out
        clear hlen hm he hz
        go_wp2_with (go_at_call 33; refine hws.out.mono ?_; rintro e w2 ⟨rfl, hI2, hb2, hk2⟩)
        have HI : Hid (IsB B b (l ++ escF v.size 0 (v.data.toList.take (k + 1))) w2 ∧ Below B w w2 ∧ Lr.Kt w w2) := ⟨by rw [hsn.out, ← List.append_assoc]; exact hI2, hR.out.2.1.trans hb2, hR.out.2.2.trans hk2⟩
        clear hI2 hb2 hk2 hws hsn
        go_roundw
        case rel => exact ⟨k + 1, hlt, by go_num, HI⟩
        case measure => simp [intOf]; omega
      · have hne : ¬ ((c.toNat : Int) = 0) := fun e => h0 (UInt8.toNat_inj.1 (by simpa using e))
        have hne' : ((c.toNat : Int) == 0) = false := by simpa using hne
        by_cases hq : mst v.size k c = true
        · have he : ec v.size k c = [92, c] := by unfold ec; rw [if_neg h0, if_pos hq]
          rw [he] at hsn
          rw [hq] at hm
          have hwb : Hid (Calls Tryd.prog 19 #[.pointer (some ⟨b, 0, none⟩), .int .u8 92] wr fun e w' => e = .returned .nilIface ∧ IsB B b (l ++ escF v.size 0 (v.data.toList.take k) ++ [92]) w' ∧ Below B wr w' ∧ Lr.Kt wr w') := Lr.writeByteK_any B b _ 92 wr hR.out.1 (by have := hlen.out; omega) hwr.out
          have hwc : Hid (∀ w2, IsB B b (l ++ escF v.size 0 (v.data.toList.take k) ++ [92]) w2 → B ≤ w2.heap.size → Calls Tryd.prog 19 #[.pointer (some ⟨b, 0, none⟩), .int .u8 (c.toNat : Int)] w2 fun e w' => e = .returned .nilIface ∧ IsB B b (l ++ escF v.size 0 (v.data.toList.take k) ++ [92] ++ [c]) w' ∧ Below B w2 w' ∧ Lr.Kt w2 w') := fun w2 h1 h2 => Lr.writeByteK_any B b _ c w2 h1 (by have := hlen.out; simp only [List.length_append] at this ⊢; simp; omega) h2
          clear hlen he
          go_wp2_with (go_at_call 52; refine (hm.out _).mono ?_; rintro e w' ⟨rfl, rfl⟩)
          refine hwb.out.mono ?_
          rintro e w2 ⟨rfl, hI2, hb2, hk2⟩
          have hwd : Hid (Calls Tryd.prog 19 #[.pointer (some ⟨b, 0, none⟩), .int .u8 (c.toNat : Int)] w2 fun e w' => e = .returned .nilIface ∧ IsB B b (l ++ escF v.size 0 (v.data.toList.take k) ++ [92] ++ [c]) w' ∧ Below B w2 w' ∧ Lr.Kt w2 w') := hwc.out w2 hI2 (Nat.le_trans hwr.out hb2.size)
          have hR2 : Hid (Below B w w2 ∧ Lr.Kt w w2) := ⟨hR.out.2.1.trans hb2, hR.out.2.2.trans hk2⟩
          clear hI2 hb2 hk2 hwc hwb hR
          go_wp2_with fail
          refine hwd.out.mono ?_
          rintro e w3 ⟨rfl, hI3, hb3, hk3⟩
          have HI : Hid (IsB B b (l ++ escF v.size 0 (v.data.toList.take (k + 1))) w3 ∧ Below B w w3 ∧ Lr.Kt w w3) := ⟨by rw [hsn.out, ← List.append_assoc]; simpa using hI3, hR2.out.1.trans hb3, hR2.out.2.trans hk3⟩
          clear hI3 hb3 hk3 hwd hsn hR2
          go_wp2_with fail
          go_roundw
          case rel => exact ⟨k + 1, hlt, by go_num, HI⟩
          case measure => simp [intOf]; omega
        · have he : ec v.size k c = [c] := by unfold ec; rw [if_neg h0, if_neg hq]
          rw [he] at hsn
          rw [Bool.not_eq_true] at hq
          rw [hq] at hm
          have hwb : Hid (Calls Tryd.prog 19 #[.pointer (some ⟨b, 0, none⟩), .int .u8 (c.toNat : Int)] wr fun e w' => e = .returned .nilIface ∧ IsB B b (l ++ escF v.size 0 (v.data.toList.take k) ++ [c]) w' ∧ Below B wr w' ∧ Lr.Kt wr w') := Lr.writeByteK_any B b _ c wr hR.out.1 (by have := hlen.out; omega) hwr.out
          clear hlen he
          go_wp2_with (first | (go_at_call 52; refine (hm.out _).mono ?_; rintro e w' ⟨rfl, rfl⟩) | (go_at_call 19; refine hwb.out.mono ?_; rintro e w2 ⟨rfl, hI2, hb2, hk2⟩))
          have HI : Hid (IsB B b (l ++ escF v.size 0 (v.data.toList.take (k + 1))) w2 ∧ Below B w w2 ∧ Lr.Kt w w2) := ⟨by rw [hsn.out, ← List.append_assoc]; exact hI2, hR.out.2.1.trans hb2, hR.out.2.2.trans hk2⟩
          clear hI2 hb2 hk2 hwb hsn
          go_roundw
          case rel => exact ⟨k + 1, hlt, by go_num, HI⟩
          case measure => simp [intOf]; omega
    · have hke : k = v.size := by omega
      subst hke
      have HI : Hid (IsB B b (l ++ escV v.data.toList) wr ∧ Below B w wr ∧ Lr.Kt w wr) := by
        refine ⟨?_, hR.out.2⟩
        have := hR.out.1
        rw [List.take_of_length_le (by rw [hL.out]; exact Nat.le_refl _)] at this
        unfold escV
        rw [hL.out]
        exact this
      clear hR hlen
      go_wp2_with fail
      go_end0
      exact ⟨rfl, HI.out⟩
end Ke
end Go.Proofs.YtkknenmpdimdbaaDoor
