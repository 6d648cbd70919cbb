import Derived.Test.YtkiidlnimjjnlaaDoorBiMath
import Derived.Test.YtkiidlnimjjnlaaDoorBytes
import Derived.Test.YtkiidlnimjjnlaaDoorInfo
import Derived.Deep.OwnRows
namespace Go.Proofs.YtkiidlnimjjnlaaDoor
open Go.RowKit
open BerMath (lo sz be enc sg fo val pad okInt)

theorem lo_wrap (n : Int) : IntKind.u8.wrap n = ((lo n).toNat : Int) := by
  rw [BerMath.lo_n]
  simp [IntKind.wrap, IntKind.bits, IntKind.signed]

theorem set_at (l t : List UInt8) (k : Nat) (b : UInt8) (h : l.length = k + 1) : (l ++ t).set k b = l.take k ++ b :: t := by
  rw [List.set_append_left _ _ (by omega)]
  have : l.set k b = l.take k ++ [b] := by
    rw [List.set_eq_take_append_cons_drop, if_pos (by omega), List.drop_of_length_le (by omega)]
  rw [this]; simp

theorem brow_made (w : World) (e : TypeId) (n : Nat) : BRow (w.alloc (.cells (madeCells #[.int .u8 0] n) e)) w.heap.size (List.replicate n 0) := by
  intro j hj
  have hj' : j < n := by simpa using hj
  rw [World.cell?_alloc_mark, World.frozen?_alloc_mark]
  simp [madeCells, hj', Nat.mod_one]

set_option maxHeartbeats 1000000 in
theorem putInt_any (n : Int) (w : World) (h1 : -9223372036854775808 ≤ n) (h2 : n ≤ 9223372036854775807) :
    Calls Tryd.prog 34 #[.int .i64 n] w fun e w' => e = .returned (.string (S (enc n))) ∧ Below w.heap.size w w' := by
  have hmk : ∀ (m : Nat) (W : World), m ≤ 8 → (Instr.makeSlice 68 (.int .i64 (m : Int)) (.int .i64 (m : Int))).run Tryd.prog W = .ok (.slice (some ⟨W.heap.size, 0, none⟩) m m) (W.alloc (.cells (madeCells #[.int .u8 0] m) 5)) :=
    fun m W hm => run_make_row' 68 5 (.int .u8 0) 1 Tryd.underlying68 info_u8 rfl .i64 .i64 m (by omega) (by omega) W
  go_enter Tryd.func34, Tryd.ntmps34
  go_wp2
  go_loopw [3, 4] (fun sv rv wr => ∃ (j : Nat) (r : Int), sv = .int .i64 ((j + 1 : Nat) : Int) ∧ rv = .int .i64 r ∧ Hid (j + sz r = sz n) ∧ -9223372036854775808 ≤ r ∧ r ≤ 9223372036854775807 ∧ w = wr) (fun _ rv _ => sz (intOf rv))
  case atStart => exact ⟨0, n, rfl, rfl, Nat.zero_add _, h1, h2, rfl⟩
  case round =>
    obtain ⟨j, r, rfl, rfl, hj, r1, r2, rfl⟩ := hrel
    have hp := BerMath.sz_pos r
    have hpn := BerMath.sz_pos n
    have hj' := hj.out
    by_cases hin : -128 ≤ r ∧ r ≤ 127
    · have h1r := BerMath.sz_one r hin
      have hm : j + 1 = sz n := by omega
      have hm8 : sz n ≤ 8 := by omega
      have hmk2 := hmk (sz n) w hm8
      rw [hm]
      have e0 : Hid (enc n = be (sz n) n) := rfl
      obtain ⟨q, hq⟩ : ∃ q, sz n = q := ⟨_, rfl⟩
      rw [hq] at e0
      rw [hq] at hmk2 hm8 hpn
      rw [hq]
      have d1 : ¬ r < -128 := by omega
      have d2 : ¬ 127 < r := by omega
      clear hj hj' hm h1r hp hmk hin hq
      have i1 : (1 : Int) ≤ (q : Int) := by omega
      have i2 : (q : Int) ≤ 8 := by omega
      go_wp2
      go_loopw [0, 6] (fun nv iv wr => ∃ (k : Nat) (c : Int) (l t : List UInt8), k ≤ q ∧ iv = .int .i64 ((k : Int) - 1) ∧ nv = .int .i64 c ∧ -9223372036854775808 ≤ c ∧ c ≤ 9223372036854775807 ∧ Hid (l.length = k) ∧ Hid (be k c ++ t = enc n) ∧ Hid (BRow wr w.heap.size (l ++ t)) ∧ Below w.heap.size w wr) (fun _ iv _ => (intOf iv + 1).toNat)
      case atStart =>
        refine ⟨q, n, List.replicate q 0, [], Nat.le_refl _, by go_num, rfl, h1, h2, by unfold Hid; simp, ?_, ?_, (Below.refl _ _).alloc (Nat.le_refl _) _⟩
        · unfold Hid; rw [List.append_nil, e0.out]
        · unfold Hid; rw [List.append_nil]; exact brow_made _ _ _
      case round =>
        obtain ⟨k, c, l, t, hk, rfl, rfl, c1, c2, hl, hbe, hrow, hb⟩ := hrel
        have hlen : Hid (k + t.length = q) := by
          unfold Hid
          have := congrArg List.length hbe.out
          rw [e0.out] at this
          simp [BerMath.be_len] at this
          omega
        cases k with
        | zero =>
          have ht : t = enc n := by have := hbe.out; simpa [be] using this
          have hl0 : l = [] := List.eq_nil_of_length_eq_zero hl.out
          subst ht hl0
          have hback := conv_back (P := Tryd.prog) wr 68 9 5 w.heap.size q q (enc n) Tryd.underlying68 Tryd.underlying5 Tryd.underlying9 (by have := hlen.out; omega) (by have := hrow.out; simpa using this)
          clear hbe hrow hl hlen
          go_wp2
          go_ret
          exact ⟨rfl, hb⟩
        | succ k =>
          have hki : (((k + 1 : Nat) : Int)) - 1 = (k : Int) := by omega
          rw [hki]
          have hw := lo_wrap c
          obtain ⟨x, x1, x2⟩ : ∃ x, wr.cell? ⟨w.heap.size, k, none⟩ = some x ∧ wr.frozen? ⟨w.heap.size, k, none⟩ = false := ⟨_, hrow.out k (by rw [List.length_append, hl.out]; omega)⟩
          have hset : Hid (BRow (wr.setCell ⟨w.heap.size, k, none⟩ (.int .u8 ((lo c).toNat : Int))) w.heap.size (l.take k ++ lo c :: t)) := by
            unfold Hid
            rw [← set_at l t k (lo c) hl.out]
            exact hrow.out.set k (by rw [List.length_append, hl.out]; omega) (lo c)
          have hbe2 : Hid (be k (c / 256) ++ (lo c :: t) = enc n) := by
            unfold Hid
            rw [← hbe.out]
            simp [be]
          have hl2 : Hid ((l.take k).length = k) := by unfold Hid; rw [List.length_take, hl.out]; omega
          generalize ((lo c).toNat : Int) = lb at *
          have k0 : (0 : Int) ≤ (k : Int) := by omega
          have k1 : (k : Int) < (q : Int) := by omega
          clear hrow hbe hl hlen
          go_wp2
          go_roundw
          case rel => exact ⟨k, c / 256, l.take k, lo c :: t, by omega, rfl, rfl, by omega, by omega, hl2.out, hbe2.out, hset.out, hb.setCell (Nat.le_refl _) _⟩
          case measure => simp [intOf]
    · have hu := BerMath.sz_up r hin r1 r2
      have hd : r < -128 ∨ (¬ r < -128 ∧ 127 < r) := by omega
      rcases hd with d1 | ⟨d1, d2⟩
      all_goals
        have hj7 : (j : Int) ≤ 8 := by omega
        have hje : Hid (j + 1 + sz (r / 256) = sz n) := by unfold Hid; omega
        clear hj hj' hp hpn hin
        go_wp2
        go_roundw
        case rel => exact ⟨j + 1, r / 256, by go_num, rfl, hje.out, by omega, by omega, trivial⟩
        case measure => simp [intOf]; omega

/-- What Int answers of a content. -/
def intV (l : List UInt8) : Value := if okInt l = true then .tuple #[.int .i64 (val l), .int .i64 0] else .tuple #[.int .i64 0, .int .i64 29]

set_option maxRecDepth 100000 in
theorem padded_any (s : ByteArray) (w : World) : Calls Tryd.prog 45 #[.string s] w fun e w' => e = .returned (.bool (pad s.data.toList)) ∧ w = w' := by
  have hL : Hid (s.data.toList.length = s.size) := size_l s
  by_cases h2 : 2 ≤ s.size
  · have hd : ∃ l, s.data.toList = s[0] :: s[1] :: l := by
      have g0 := getD_s s 0 (by omega)
      have g1 := getD_s s 1 (by omega)
      have hL' := hL.out
      match hm : s.data.toList, hL' with
      | [], hh => simp at hh; omega
      | [x], hh => simp at hh; omega
      | x :: y :: l, _ =>
        rw [hm] at g0 g1
        refine ⟨l, ?_⟩
        rw [← g0, ← g1]
        rfl
    obtain ⟨l, hl⟩ := hd
    rw [hl]
    show Calls _ _ _ _ fun e w' => e = .returned (.bool (decide (s[0].toNat = 0 ∧ s[1].toNat < 128) || decide (s[0].toNat = 255 ∧ 128 ≤ s[1].toNat))) ∧ w = w'
    have hx := s[0].toNat_lt
    have hy := s[1].toNat_lt
    clear hl
    have z2 : (2 : Int) ≤ (s.size : Int) := by omega
    by_cases a0 : s[0].toNat = 0
    · by_cases a1 : s[1].toNat < 128
      · have d1 : ¬ (128 : Int) ≤ (s[1].toNat : Int) := by omega
        have d2 : (s[0].toNat : Int) = 0 := by omega
        have e : (decide (s[0].toNat = 0 ∧ s[1].toNat < 128) || decide (s[0].toNat = 255 ∧ 128 ≤ s[1].toNat)) = true := by simp [a0, a1]
        rw [e]
        go_enter Tryd.func45, Tryd.ntmps45
        go_wp2
        go_ret
        first | exact ⟨rfl, rfl⟩ | (refine ⟨?_, rfl⟩; simp; omega)
      · have d1 : decide ((128 : Int) ≤ (s[1].toNat : Int)) = true := by simp; omega
        have d2 : (s[0].toNat : Int) = 0 := by omega
        have e : (decide (s[0].toNat = 0 ∧ s[1].toNat < 128) || decide (s[0].toNat = 255 ∧ 128 ≤ s[1].toNat)) = false := by simp [a0]; omega
        rw [e]
        clear a1
        go_enter Tryd.func45, Tryd.ntmps45
        go_wp2
        go_ret
        first | exact ⟨rfl, rfl⟩ | (refine ⟨?_, rfl⟩; simp; omega)
    · have d2 : ¬ (s[0].toNat : Int) = 0 := by omega
      by_cases b0 : s[0].toNat = 255
      · have d3 : (s[0].toNat : Int) = 255 := by omega
        by_cases a1 : s[1].toNat < 128
        · have d1 : ¬ (128 : Int) ≤ (s[1].toNat : Int) := by omega
          have e : (decide (s[0].toNat = 0 ∧ s[1].toNat < 128) || decide (s[0].toNat = 255 ∧ 128 ≤ s[1].toNat)) = false := by simp [b0]; omega
          rw [e]
          clear a1
          go_enter Tryd.func45, Tryd.ntmps45
          go_wp2
          go_ret
          first | exact ⟨rfl, rfl⟩ | (refine ⟨?_, rfl⟩; simp; omega)
        · have d1 : decide ((128 : Int) ≤ (s[1].toNat : Int)) = true := by simp; omega
          have e : (decide (s[0].toNat = 0 ∧ s[1].toNat < 128) || decide (s[0].toNat = 255 ∧ 128 ≤ s[1].toNat)) = true := by simp [b0]; omega
          rw [e]
          clear a1
          go_enter Tryd.func45, Tryd.ntmps45
          go_wp2
          go_ret
          first | exact ⟨rfl, rfl⟩ | (refine ⟨?_, rfl⟩; simp; omega)
      · have d3 : ¬ (s[0].toNat : Int) = 255 := by omega
        have e : (decide (s[0].toNat = 0 ∧ s[1].toNat < 128) || decide (s[0].toNat = 255 ∧ 128 ≤ s[1].toNat)) = false := by simp [a0, b0]
        rw [e]
        go_enter Tryd.func45, Tryd.ntmps45
        go_wp2
        go_ret
        first | exact ⟨rfl, rfl⟩ | (refine ⟨?_, rfl⟩; simp; omega)
  · have e : pad s.data.toList = false := by
      have hL' := hL.out
      match hm : s.data.toList, hL' with
      | [], hh => rfl
      | [x], hh => rfl
      | x :: y :: l, hh => simp at hh; omega
    rw [e]
    have z2 : (s.size : Int) < 2 := by omega
    go_enter Tryd.func45, Tryd.ntmps45
    go_wp2
    go_ret
    first | exact ⟨rfl, rfl⟩ | (refine ⟨?_, rfl⟩; simp; omega)

theorem or_low (n : Int) (b : Nat) (hb : b < 256) (h1 : -36028797018963968 ≤ n) (h2 : n ≤ 36028797018963967) : bits .or .i64 (n * 256) (b : Int) = n * 256 + (b : Int) := by
  have e1 : (BitVec.ofInt 64 (b : Int)).toNat = b := by rw [BitVec.toNat_ofInt]; omega
  have e2 : (BitVec.ofInt 64 (n * 256)).toNat = (n % 72057594037927936).toNat <<< 8 := by
    rw [BitVec.toNat_ofInt, Nat.shiftLeft_eq]; omega
  have key : (BitVec.ofInt 64 (n * 256) ||| BitVec.ofInt 64 (b : Int)).toNat = (n % 72057594037927936).toNat * 256 + b := by
    rw [BitVec.toNat_or, e1, e2, ← Nat.shiftLeft_add_eq_or_of_lt (by omega), Nat.shiftLeft_eq]
  show IntKind.i64.wrap ((BitVec.ofInt 64 (n * 256) ||| BitVec.ofInt 64 (b : Int)).toNat : Nat) = _
  rw [key, IntKind.wrap_i64]
  omega

theorem fo_le (l : List UInt8) (h : l ≠ []) (h7 : l.length ≤ 7) : -36028797018963968 ≤ val l ∧ val l ≤ 36028797018963967 := by
  revert h7
  have key : ∀ (l : List UInt8), l ≠ [] → -(128 * 256 ^ (l.length - 1) : Int) ≤ val l ∧ val l < 128 * 256 ^ (l.length - 1) := by
    intro l h
    refine BerMath.snoc_ind (p := fun l => -(128 * 256 ^ (l.length - 1) : Int) ≤ val l ∧ val l < 128 * 256 ^ (l.length - 1)) ?_ ?_ l h
    · intro b
      have hb := b.toNat_lt
      rw [BerMath.val_one]
      simp
      split <;> omega
    · intro l b hl ih
      have hb := b.toNat_lt
      have hpos := List.length_pos_iff.mpr hl
      have e : (l ++ [b]).length - 1 = l.length - 1 + 1 := by simp; omega
      rw [e, BerMath.val_snoc l b hl, Int.pow_succ]
      generalize (256 : Int) ^ (l.length - 1) = q at *
      omega
  intro h7
  have hk := key l h
  have hpos := List.length_pos_iff.mpr h
  have hc : l.length - 1 = 0 ∨ l.length - 1 = 1 ∨ l.length - 1 = 2 ∨ l.length - 1 = 3 ∨ l.length - 1 = 4 ∨ l.length - 1 = 5 ∨ l.length - 1 = 6 := by omega
  rcases hc with e | e | e | e | e | e | e <;> rw [e] at hk <;> simp at hk <;> omega
end Go.Proofs.YtkiidlnimjjnlaaDoor
