import Derived.Test.YthgpinamglpniabPtWalks
import Derived.ProofKit
import Derived.Deep.Slices
namespace Go.Proofs.Ythgpinamglpniab
open Go.RowKit
open TextMath (wd nd wr St check)

/-- A slice of ints that came in: where there is an element, its cell holds an int. -/
def IsInts (w : World) (a : Option Addr) (len : Nat) : Prop := ∀ i, i < len → ∃ b off v, a = some ⟨b, off, none⟩ ∧ w.cell? ⟨b, off + i, none⟩ = some (.int .i64 v)

theorem block_in {w : World} {a : Addr} {v : Value} (h : w.cell? a = some v) : a.block < w.heap.size := by
  rcases Nat.lt_or_ge a.block w.heap.size with h' | h'
  · exact h'
  · unfold World.cell? at h
    rw [Array.getElem?_eq_none h'] at h
    cases h
theorem S_app (a b : List UInt8) : S a ++ S b = S (a ++ b) := S_eq _ _ (by rw [app_l, S_l, S_l])
theorem and21 (n : Int) : bits .and .i64 n 2097151 = n % 2097152 := by
  have h127 : (BitVec.ofInt 64 2097151).toNat = 2 ^ 21 - 1 := by decide
  have key : (BitVec.ofInt 64 n &&& BitVec.ofInt 64 2097151).toNat = (n % ((2 ^ 64 : Nat) : Int)).toNat % 2 ^ 21 := by
    rw [BitVec.toNat_and, BitVec.toNat_ofInt, h127, Nat.and_two_pow_sub_one_eq_mod]
  show IntKind.i64.wrap ((BitVec.ofInt 64 n &&& BitVec.ofInt 64 2097151).toNat : Nat) = n % 2097152
  rw [key, IntKind.wrap_i64]
  omega
theorem and2 (n : Int) : bits .and .i64 n 3 = n % 4 := by
  have h127 : (BitVec.ofInt 64 3).toNat = 2 ^ 2 - 1 := by decide
  have key : (BitVec.ofInt 64 n &&& BitVec.ofInt 64 3).toNat = (n % ((2 ^ 64 : Nat) : Int)).toNat % 2 ^ 2 := by
    rw [BitVec.toNat_and, BitVec.toNat_ofInt, h127, Nat.and_two_pow_sub_one_eq_mod]
  show IntKind.i64.wrap ((BitVec.ofInt 64 n &&& BitVec.ofInt 64 3).toNat : Nat) = n % 4
  rw [key, IntKind.wrap_i64]
  omega

theorem chk_good {s : List UInt8} (h : check s = (true, s.length)) : chkV (S s).data.toList = .tuple #[.int .i64 0, .int .i64 ((S s).size : Nat)] := by
  rw [S_l]; unfold chkV; rw [h, S_size]; rfl
theorem chk_bad {s : List UInt8} {p : Nat} (h : check s = (false, p)) : chkV (S s).data.toList = .tuple #[.int .i64 10, .int .i64 (p : Nat)] := by
  rw [S_l]; unfold chkV; rw [h]; rfl

set_option maxRecDepth 100000 in
set_option maxHeartbeats 4000000 in
theorem points_walk (a1 : Option Addr) (l1 c1 : Nat) (a2 : Option Addr) (l2 c2 : Nat) (w : World) (h1 : IsInts w a1 l1) (h2 : IsInts w a2 l2) :
    Calls Try.prog 3 #[.slice a1 l1 c1, .slice a2 l2 c2] w fun e w' => e = .returned (.bool true) ∧ Below w.heap.size w w' := by
  go_enter Try.func3, Try.ntmps3
  go_wp2
  go_loopw [5, 6, 7] (fun sv bv iv wr => ∃ (k : Nat) (s : List UInt8) (bad : Int), k ≤ 64 ∧ sv = .string (S s) ∧ bv = .int .i64 bad ∧ iv = .int .i64 (k : Int) ∧ s.length ≤ 4 * k ∧ Hid (St s bad) ∧ Below w.heap.size w wr) (fun _ _ iv _ => 64 - (intOf iv).toNat)
  case atStart => exact ⟨0, [], -1, by omega, rfl, rfl, rfl, by simp, TextMath.St_nil, Below.refl _ _⟩
  case round =>
    obtain ⟨k, s, bad, hk, rfl, rfl, rfl, hl, hst, HB⟩ := hrel
    by_cases hlt : k < l1 ∧ k < 64
    · obtain ⟨b1, f1, v1, rfl, hc1⟩ := h1 k hlt.1
      have hc1' : wr.cell? ⟨b1, f1 + k, none⟩ = some (.int .i64 v1) := by rw [HB.cell (block_in hc1)]; exact hc1
      obtain ⟨n, hn⟩ : ∃ n : Nat, v1 % 2097152 = (n : Int) := ⟨(v1 % 2097152).toNat, by omega⟩
      have hn2 : n < 2097152 := by omega
      have hand : bits .and .i64 v1 2097151 = (n : Int) := by rw [and21]; exact hn
      have hnd : Hid (Calls Try.prog 6 #[.int .i64 (n : Int)] wr fun e w' => e = .returned (.int .i64 ((nd n : Nat) : Int)) ∧ w' = wr) := need_any n wr
      obtain ⟨m, hm, hmm⟩ : ∃ m : Nat, m ≤ 3 ∧ ((l2 ≤ k ∧ m = 0) ∨ (k < l2 ∧ ∃ b2 f2 v2, a2 = some ⟨b2, f2, none⟩ ∧ wr.cell? ⟨b2, f2 + k, none⟩ = some (.int .i64 v2) ∧ bits .and .i64 v2 3 = (m : Int))) := by
        by_cases hk2 : k < l2
        · obtain ⟨b2, f2, v2, rfl, hc2⟩ := h2 k hk2
          exact ⟨(v2 % 4).toNat, by omega, Or.inr ⟨hk2, b2, f2, v2, rfl, by rw [HB.cell (block_in hc2)]; exact hc2, by rw [and2]; omega⟩⟩
        · exact ⟨0, by omega, Or.inl ⟨by omega, rfl⟩⟩
      have hnd4 := TextMath.nd_cases n
      obtain ⟨q, hq⟩ : ∃ q, q = nd n + m := ⟨_, rfl⟩
      obtain ⟨x, hx⟩ : ∃ x, x = if 4 < q then 4 else q := ⟨_, rfl⟩
      have hx4 : nd n ≤ x ∧ x ≤ 4 ∧ 1 ≤ x := by rw [hx]; split <;> omega
      have hwd : Hid (Calls Try.prog 7 #[.int .i64 (n : Int), .int .i64 (x : Int)] wr fun e w' => e = .returned (.string (S (wd n x))) ∧ Below wr.heap.size wr w') := wide_any n x wr hn2 hx4.1 hx4.2.1
      have hadd : ∀ W, (Op.stringOp .add (S s) (S (wd n x))).run Try.prog W = .ok (.string (S (s ++ wd n x))) W := fun W => by
        rw [run_string_add_sum W _ _ (by rw [S_size, S_size, TextMath.wd_len n x hx4.2.2 hx4.2.1]; omega), S_app]
      have hl2 : Hid ((s ++ wd n x).length ≤ 4 * (k + 1)) := by unfold Hid; rw [List.length_append, TextMath.wd_len n x hx4.2.2 hx4.2.1]; omega
      have R1 : Hid (TextMath.wr n x = false → St (s ++ wd n x) bad) := fun h => TextMath.St_good s bad n x hst.out hn2 hx4.1 h
      have R2 : Hid (¬ bad < 0 → St (s ++ wd n x) bad) := fun h => TextMath.St_keep s bad _ hst.out h
      have R3 : Hid (TextMath.wr n x = true → bad < 0 → St (s ++ wd n x) ((S s).size : Int)) := fun h h' => by rw [S_size]; exact TextMath.St_bad s bad n x hst.out hn2 hx4.1 hx4.2.1 h h'
      have hW : Hid ((TextMath.wr n x = true ∧ ((nd n < x) ∨ (¬ nd n < x ∧ 55296 ≤ n ∧ n ≤ 57343) ∨ (¬ nd n < x ∧ 57343 < n ∧ 1114111 < n))) ∨ (TextMath.wr n x = false ∧ ¬ nd n < x ∧ (n < 55296 ∨ (57343 < n ∧ n ≤ 1114111)))) := by
        unfold Hid
        by_cases hww : TextMath.wr n x = true
        · refine Or.inl ⟨hww, ?_⟩
          unfold TextMath.wr at hww; simp at hww; omega
        · have hwf : TextMath.wr n x = false := by simpa using hww
          refine Or.inr ⟨hwf, ?_⟩
          unfold TextMath.wr at hwf; simp at hwf; omega
      have k0 : (0 : Int) ≤ (k : Int) := by omega
      have k1 : (k : Int) < (l1 : Int) := by omega
      have k2 : (k : Int) < 64 := by omega
      have hndx : nd n ≤ x ∧ 1 ≤ nd n ∧ nd n ≤ 4 := by omega
      clear h1 h2 hc1 hst hl hn hnd4
      generalize nd n = d at *
      have i1 : (1 : Int) ≤ (d : Int) := by omega
      have i2 : (d : Int) ≤ 4 := by omega
      have i3 : (0 : Int) ≤ (m : Int) := by omega
      have i4 : (m : Int) ≤ 3 := by omega
      have i5 : (0 : Int) ≤ (n : Int) := by omega
      rcases hmm with ⟨e1, rfl⟩ | ⟨e1, b2, f2, v2, rfl, hc2, hand2⟩
      · have j1 : (l2 : Int) ≤ (k : Int) := by omega
        have j2 : x = d := by rw [hx, hq]; split <;> omega
        subst j2
        clear hx hq hx4
        rcases hW.out with ⟨hw, hW1 | ⟨hW1, hW2, hW3⟩ | ⟨hW1, hW2, hW3⟩⟩ | ⟨hw, hW1, hW2 | ⟨hW2, hW3⟩⟩
        · exfalso; omega
        · have o2 : (55296 : Int) ≤ (n : Int) := by omega
          have o3 : (n : Int) ≤ 57343 := by omega
          by_cases hbd : bad < 0
          · have RR : Hid (St (s ++ wd n x) ((S s).size : Int)) := R3.out hw hbd
            clear R1 R2 R3 hw
            clear hW
            go_wp2_with (first | (go_at_call 6; refine hnd.out.mono ?_; rintro e w2 ⟨rfl, rfl⟩) | (go_at_call 7; refine hwd.out.mono ?_; rintro e w2 ⟨rfl, hb2⟩) | go_in)
            go_roundw
            case rel => exact ⟨k + 1, s ++ wd n x, ((S s).size : Int), by omega, rfl, rfl, by go_num, hl2.out, RR, HB.trans (hb2.mono HB.size)⟩
            case measure => simp [intOf]; omega
          · have RR : Hid (St (s ++ wd n x) bad) := R2.out hbd
            clear R1 R2 R3 hw
            clear hW
            go_wp2_with (first | (go_at_call 6; refine hnd.out.mono ?_; rintro e w2 ⟨rfl, rfl⟩) | (go_at_call 7; refine hwd.out.mono ?_; rintro e w2 ⟨rfl, hb2⟩) | go_in)
            go_roundw
            case rel => exact ⟨k + 1, s ++ wd n x, bad, by omega, rfl, rfl, by go_num, hl2.out, RR, HB.trans (hb2.mono HB.size)⟩
            case measure => simp [intOf]; omega
        · have o2 : (55296 : Int) ≤ (n : Int) := by omega
          have o3 : ¬ (n : Int) ≤ 57343 := by omega
          have o4 : (1114111 : Int) < (n : Int) := by omega
          by_cases hbd : bad < 0
          · have RR : Hid (St (s ++ wd n x) ((S s).size : Int)) := R3.out hw hbd
            clear R1 R2 R3 hw
            clear hW
            go_wp2_with (first | (go_at_call 6; refine hnd.out.mono ?_; rintro e w2 ⟨rfl, rfl⟩) | (go_at_call 7; refine hwd.out.mono ?_; rintro e w2 ⟨rfl, hb2⟩) | go_in)
            go_roundw
            case rel => exact ⟨k + 1, s ++ wd n x, ((S s).size : Int), by omega, rfl, rfl, by go_num, hl2.out, RR, HB.trans (hb2.mono HB.size)⟩
            case measure => simp [intOf]; omega
          · have RR : Hid (St (s ++ wd n x) bad) := R2.out hbd
            clear R1 R2 R3 hw
            clear hW
            go_wp2_with (first | (go_at_call 6; refine hnd.out.mono ?_; rintro e w2 ⟨rfl, rfl⟩) | (go_at_call 7; refine hwd.out.mono ?_; rintro e w2 ⟨rfl, hb2⟩) | go_in)
            go_roundw
            case rel => exact ⟨k + 1, s ++ wd n x, bad, by omega, rfl, rfl, by go_num, hl2.out, RR, HB.trans (hb2.mono HB.size)⟩
            case measure => simp [intOf]; omega
        · have o2 : decide ((55296 : Int) ≤ (n : Int)) = false := by simp; omega
          have o4 : decide ((1114111 : Int) < (n : Int)) = false := by simp; omega
          clear hW2
          have RR : Hid (St (s ++ wd n x) bad) := R1.out hw
          clear R1 R2 R3 hw
          clear hW
          go_wp2_with (first | (go_at_call 6; refine hnd.out.mono ?_; rintro e w2 ⟨rfl, rfl⟩) | (go_at_call 7; refine hwd.out.mono ?_; rintro e w2 ⟨rfl, hb2⟩) | go_in)
          go_roundw
          case rel => exact ⟨k + 1, s ++ wd n x, bad, by omega, rfl, rfl, by go_num, hl2.out, RR, HB.trans (hb2.mono HB.size)⟩
          case measure => simp [intOf]; omega
        · have o2 : (55296 : Int) ≤ (n : Int) := by omega
          have o3 : ¬ (n : Int) ≤ 57343 := by omega
          have o4 : ¬ (1114111 : Int) < (n : Int) := by omega
          have RR : Hid (St (s ++ wd n x) bad) := R1.out hw
          clear R1 R2 R3 hw
          clear hW
          go_wp2_with (first | (go_at_call 6; refine hnd.out.mono ?_; rintro e w2 ⟨rfl, rfl⟩) | (go_at_call 7; refine hwd.out.mono ?_; rintro e w2 ⟨rfl, hb2⟩) | go_in)
          go_roundw
          case rel => exact ⟨k + 1, s ++ wd n x, bad, by omega, rfl, rfl, by go_num, hl2.out, RR, HB.trans (hb2.mono HB.size)⟩
          case measure => simp [intOf]; omega
      · have j1 : (k : Int) < (l2 : Int) := by omega
        by_cases hq4 : 4 < q
        · have j2 : x = 4 := by rw [hx, if_pos hq4]
          subst j2
          have j3 : (4 : Int) < (d : Int) + (m : Int) := by omega
          clear hx hq hx4
          rcases hW.out with ⟨hw, hW1 | ⟨hW1, hW2, hW3⟩ | ⟨hW1, hW2, hW3⟩⟩ | ⟨hw, hW1, hW2 | ⟨hW2, hW3⟩⟩
          · have o1 : (d : Int) < 4 := by omega
            by_cases hbd : bad < 0
            · have RR : Hid (St (s ++ wd n 4) ((S s).size : Int)) := R3.out hw hbd
              clear R1 R2 R3 hw
              clear hW
              go_wp2_with (first | (go_at_call 6; refine hnd.out.mono ?_; rintro e w2 ⟨rfl, rfl⟩) | (go_at_call 7; refine hwd.out.mono ?_; rintro e w2 ⟨rfl, hb2⟩) | go_in)
              go_roundw
              case rel => exact ⟨k + 1, s ++ wd n 4, ((S s).size : Int), by omega, rfl, rfl, by go_num, hl2.out, RR, HB.trans (hb2.mono HB.size)⟩
              case measure => simp [intOf]; omega
            · have RR : Hid (St (s ++ wd n 4) bad) := R2.out hbd
              clear R1 R2 R3 hw
              clear hW
              go_wp2_with (first | (go_at_call 6; refine hnd.out.mono ?_; rintro e w2 ⟨rfl, rfl⟩) | (go_at_call 7; refine hwd.out.mono ?_; rintro e w2 ⟨rfl, hb2⟩) | go_in)
              go_roundw
              case rel => exact ⟨k + 1, s ++ wd n 4, bad, by omega, rfl, rfl, by go_num, hl2.out, RR, HB.trans (hb2.mono HB.size)⟩
              case measure => simp [intOf]; omega
          · have o1 : ¬ (d : Int) < 4 := by omega
            have o2 : (55296 : Int) ≤ (n : Int) := by omega
            have o3 : (n : Int) ≤ 57343 := by omega
            by_cases hbd : bad < 0
            · have RR : Hid (St (s ++ wd n 4) ((S s).size : Int)) := R3.out hw hbd
              clear R1 R2 R3 hw
              clear hW
              go_wp2_with (first | (go_at_call 6; refine hnd.out.mono ?_; rintro e w2 ⟨rfl, rfl⟩) | (go_at_call 7; refine hwd.out.mono ?_; rintro e w2 ⟨rfl, hb2⟩) | go_in)
              go_roundw
              case rel => exact ⟨k + 1, s ++ wd n 4, ((S s).size : Int), by omega, rfl, rfl, by go_num, hl2.out, RR, HB.trans (hb2.mono HB.size)⟩
              case measure => simp [intOf]; omega
            · have RR : Hid (St (s ++ wd n 4) bad) := R2.out hbd
              clear R1 R2 R3 hw
              clear hW
              go_wp2_with (first | (go_at_call 6; refine hnd.out.mono ?_; rintro e w2 ⟨rfl, rfl⟩) | (go_at_call 7; refine hwd.out.mono ?_; rintro e w2 ⟨rfl, hb2⟩) | go_in)
              go_roundw
              case rel => exact ⟨k + 1, s ++ wd n 4, bad, by omega, rfl, rfl, by go_num, hl2.out, RR, HB.trans (hb2.mono HB.size)⟩
              case measure => simp [intOf]; omega
          · have o1 : ¬ (d : Int) < 4 := by omega
            have o2 : (55296 : Int) ≤ (n : Int) := by omega
            have o3 : ¬ (n : Int) ≤ 57343 := by omega
            have o4 : (1114111 : Int) < (n : Int) := by omega
            by_cases hbd : bad < 0
            · have RR : Hid (St (s ++ wd n 4) ((S s).size : Int)) := R3.out hw hbd
              clear R1 R2 R3 hw
              clear hW
              go_wp2_with (first | (go_at_call 6; refine hnd.out.mono ?_; rintro e w2 ⟨rfl, rfl⟩) | (go_at_call 7; refine hwd.out.mono ?_; rintro e w2 ⟨rfl, hb2⟩) | go_in)
              go_roundw
              case rel => exact ⟨k + 1, s ++ wd n 4, ((S s).size : Int), by omega, rfl, rfl, by go_num, hl2.out, RR, HB.trans (hb2.mono HB.size)⟩
              case measure => simp [intOf]; omega
            · have RR : Hid (St (s ++ wd n 4) bad) := R2.out hbd
              clear R1 R2 R3 hw
              clear hW
              go_wp2_with (first | (go_at_call 6; refine hnd.out.mono ?_; rintro e w2 ⟨rfl, rfl⟩) | (go_at_call 7; refine hwd.out.mono ?_; rintro e w2 ⟨rfl, hb2⟩) | go_in)
              go_roundw
              case rel => exact ⟨k + 1, s ++ wd n 4, bad, by omega, rfl, rfl, by go_num, hl2.out, RR, HB.trans (hb2.mono HB.size)⟩
              case measure => simp [intOf]; omega
          · have o1 : ¬ (d : Int) < 4 := by omega
            have o2 : decide ((55296 : Int) ≤ (n : Int)) = false := by simp; omega
            have o4 : decide ((1114111 : Int) < (n : Int)) = false := by simp; omega
            clear hW2
            have RR : Hid (St (s ++ wd n 4) bad) := R1.out hw
            clear R1 R2 R3 hw
            clear hW
            go_wp2_with (first | (go_at_call 6; refine hnd.out.mono ?_; rintro e w2 ⟨rfl, rfl⟩) | (go_at_call 7; refine hwd.out.mono ?_; rintro e w2 ⟨rfl, hb2⟩) | go_in)
            go_roundw
            case rel => exact ⟨k + 1, s ++ wd n 4, bad, by omega, rfl, rfl, by go_num, hl2.out, RR, HB.trans (hb2.mono HB.size)⟩
            case measure => simp [intOf]; omega
          · have o1 : ¬ (d : Int) < 4 := by omega
            have o2 : (55296 : Int) ≤ (n : Int) := by omega
            have o3 : ¬ (n : Int) ≤ 57343 := by omega
            have o4 : ¬ (1114111 : Int) < (n : Int) := by omega
            have RR : Hid (St (s ++ wd n 4) bad) := R1.out hw
            clear R1 R2 R3 hw
            clear hW
            go_wp2_with (first | (go_at_call 6; refine hnd.out.mono ?_; rintro e w2 ⟨rfl, rfl⟩) | (go_at_call 7; refine hwd.out.mono ?_; rintro e w2 ⟨rfl, hb2⟩) | go_in)
            go_roundw
            case rel => exact ⟨k + 1, s ++ wd n 4, bad, by omega, rfl, rfl, by go_num, hl2.out, RR, HB.trans (hb2.mono HB.size)⟩
            case measure => simp [intOf]; omega
        · have j2 : (d : Int) + (m : Int) = (x : Int) := by rw [hx, if_neg hq4]; omega
          have j3 : (x : Int) ≤ 4 := by omega
          clear hx hq hx4
          rcases hW.out with ⟨hw, hW1 | ⟨hW1, hW2, hW3⟩ | ⟨hW1, hW2, hW3⟩⟩ | ⟨hw, hW1, hW2 | ⟨hW2, hW3⟩⟩
          · have o1 : (d : Int) < (x : Int) := by omega
            by_cases hbd : bad < 0
            · have RR : Hid (St (s ++ wd n x) ((S s).size : Int)) := R3.out hw hbd
              clear R1 R2 R3 hw
              clear hW
              go_wp2_with (first | (go_at_call 6; refine hnd.out.mono ?_; rintro e w2 ⟨rfl, rfl⟩) | (go_at_call 7; refine hwd.out.mono ?_; rintro e w2 ⟨rfl, hb2⟩) | go_in)
              go_roundw
              case rel => exact ⟨k + 1, s ++ wd n x, ((S s).size : Int), by omega, rfl, rfl, by go_num, hl2.out, RR, HB.trans (hb2.mono HB.size)⟩
              case measure => simp [intOf]; omega
            · have RR : Hid (St (s ++ wd n x) bad) := R2.out hbd
              clear R1 R2 R3 hw
              clear hW
              go_wp2_with (first | (go_at_call 6; refine hnd.out.mono ?_; rintro e w2 ⟨rfl, rfl⟩) | (go_at_call 7; refine hwd.out.mono ?_; rintro e w2 ⟨rfl, hb2⟩) | go_in)
              go_roundw
              case rel => exact ⟨k + 1, s ++ wd n x, bad, by omega, rfl, rfl, by go_num, hl2.out, RR, HB.trans (hb2.mono HB.size)⟩
              case measure => simp [intOf]; omega
          · have o1 : ¬ (d : Int) < (x : Int) := by omega
            have o2 : (55296 : Int) ≤ (n : Int) := by omega
            have o3 : (n : Int) ≤ 57343 := by omega
            by_cases hbd : bad < 0
            · have RR : Hid (St (s ++ wd n x) ((S s).size : Int)) := R3.out hw hbd
              clear R1 R2 R3 hw
              clear hW
              go_wp2_with (first | (go_at_call 6; refine hnd.out.mono ?_; rintro e w2 ⟨rfl, rfl⟩) | (go_at_call 7; refine hwd.out.mono ?_; rintro e w2 ⟨rfl, hb2⟩) | go_in)
              go_roundw
              case rel => exact ⟨k + 1, s ++ wd n x, ((S s).size : Int), by omega, rfl, rfl, by go_num, hl2.out, RR, HB.trans (hb2.mono HB.size)⟩
              case measure => simp [intOf]; omega
            · have RR : Hid (St (s ++ wd n x) bad) := R2.out hbd
              clear R1 R2 R3 hw
              clear hW
              go_wp2_with (first | (go_at_call 6; refine hnd.out.mono ?_; rintro e w2 ⟨rfl, rfl⟩) | (go_at_call 7; refine hwd.out.mono ?_; rintro e w2 ⟨rfl, hb2⟩) | go_in)
              go_roundw
              case rel => exact ⟨k + 1, s ++ wd n x, bad, by omega, rfl, rfl, by go_num, hl2.out, RR, HB.trans (hb2.mono HB.size)⟩
              case measure => simp [intOf]; omega
          · have o1 : ¬ (d : Int) < (x : Int) := by omega
            have o2 : (55296 : Int) ≤ (n : Int) := by omega
            have o3 : ¬ (n : Int) ≤ 57343 := by omega
            have o4 : (1114111 : Int) < (n : Int) := by omega
            by_cases hbd : bad < 0
            · have RR : Hid (St (s ++ wd n x) ((S s).size : Int)) := R3.out hw hbd
              clear R1 R2 R3 hw
              clear hW
              go_wp2_with (first | (go_at_call 6; refine hnd.out.mono ?_; rintro e w2 ⟨rfl, rfl⟩) | (go_at_call 7; refine hwd.out.mono ?_; rintro e w2 ⟨rfl, hb2⟩) | go_in)
              go_roundw
              case rel => exact ⟨k + 1, s ++ wd n x, ((S s).size : Int), by omega, rfl, rfl, by go_num, hl2.out, RR, HB.trans (hb2.mono HB.size)⟩
              case measure => simp [intOf]; omega
            · have RR : Hid (St (s ++ wd n x) bad) := R2.out hbd
              clear R1 R2 R3 hw
              clear hW
              go_wp2_with (first | (go_at_call 6; refine hnd.out.mono ?_; rintro e w2 ⟨rfl, rfl⟩) | (go_at_call 7; refine hwd.out.mono ?_; rintro e w2 ⟨rfl, hb2⟩) | go_in)
              go_roundw
              case rel => exact ⟨k + 1, s ++ wd n x, bad, by omega, rfl, rfl, by go_num, hl2.out, RR, HB.trans (hb2.mono HB.size)⟩
              case measure => simp [intOf]; omega
          · have o1 : ¬ (d : Int) < (x : Int) := by omega
            have o2 : decide ((55296 : Int) ≤ (n : Int)) = false := by simp; omega
            have o4 : decide ((1114111 : Int) < (n : Int)) = false := by simp; omega
            clear hW2
            have RR : Hid (St (s ++ wd n x) bad) := R1.out hw
            clear R1 R2 R3 hw
            clear hW
            go_wp2_with (first | (go_at_call 6; refine hnd.out.mono ?_; rintro e w2 ⟨rfl, rfl⟩) | (go_at_call 7; refine hwd.out.mono ?_; rintro e w2 ⟨rfl, hb2⟩) | go_in)
            go_roundw
            case rel => exact ⟨k + 1, s ++ wd n x, bad, by omega, rfl, rfl, by go_num, hl2.out, RR, HB.trans (hb2.mono HB.size)⟩
            case measure => simp [intOf]; omega
          · have o1 : ¬ (d : Int) < (x : Int) := by omega
            have o2 : (55296 : Int) ≤ (n : Int) := by omega
            have o3 : ¬ (n : Int) ≤ 57343 := by omega
            have o4 : ¬ (1114111 : Int) < (n : Int) := by omega
            have RR : Hid (St (s ++ wd n x) bad) := R1.out hw
            clear R1 R2 R3 hw
            clear hW
            go_wp2_with (first | (go_at_call 6; refine hnd.out.mono ?_; rintro e w2 ⟨rfl, rfl⟩) | (go_at_call 7; refine hwd.out.mono ?_; rintro e w2 ⟨rfl, hb2⟩) | go_in)
            go_roundw
            case rel => exact ⟨k + 1, s ++ wd n x, bad, by omega, rfl, rfl, by go_num, hl2.out, RR, HB.trans (hb2.mono HB.size)⟩
            case measure => simp [intOf]; omega
    · have he : Hid ((bad < 0 ∧ check s = (true, s.length)) ∨ (∃ p : Nat, bad = (p : Int) ∧ check s = (false, p))) := TextMath.St_end s bad hst.out
      have hm : Hid ((S s).size ≤ maxLen) := by unfold Hid maxLen; rw [S_size]; omega
      have hc : Hid (Calls Try.prog 8 #[.string (S s)] wr fun e w' => e = .returned (chkV (S s).data.toList) ∧ w' = wr) := check_any (S s) wr hm.out
      have hd : (l1 : Int) ≤ (k : Int) ∨ (k : Int) < (l1 : Int) ∧ (64 : Int) ≤ (k : Int) := by omega
      clear h1 h2 hst hl hm hlt
      rcases he.out with ⟨hb, hx⟩ | ⟨p, rfl, hx⟩
      · have hv := chk_good hx
        rw [hv] at hc
        have db : decide (bad < 0) = true := by simpa using hb
        clear hv hx he
        rcases hd with d1 | ⟨d1, d2⟩
        all_goals
          go_wp2_with (first | (go_at_call 8; refine hc.out.mono ?_; rintro e w2 ⟨rfl, rfl⟩) | go_in)
          go_ret
          exact ⟨rfl, HB⟩
      · have hv := chk_bad hx
        rw [hv] at hc
        have db : decide ((p : Int) < 0) = false := by simp
        clear hv hx he
        rcases hd with d1 | ⟨d1, d2⟩
        all_goals
          go_wp2_with (first | (go_at_call 8; refine hc.out.mono ?_; rintro e w2 ⟨rfl, rfl⟩) | go_in)
          go_ret
          exact ⟨rfl, HB⟩
end Go.Proofs.Ythgpinamglpniab
