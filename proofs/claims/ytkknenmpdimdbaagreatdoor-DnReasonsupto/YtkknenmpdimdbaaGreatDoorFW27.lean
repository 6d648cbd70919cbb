import Derived.Test.YtkknenmpdimdbaaGreatDoorFW26
import Derived.Defers
import Derived.Recover
import Derived.Laws.Pointers
import Derived.Shelf.Abstract
namespace Go.Proofs.YtkknenmpdimdbaaGreatDoor
open Go.RowKit
open BerMath (Hd HR num hAt)
abbrev strV (s : ByteArray) (e m : Int) : Value := .agg #[.string s, .int .i64 e, .int .i64 m]
abbrev strO (s : ByteArray) (e m : Int) : Obj := .cells #[.string s, .int .i64 e, .int .i64 m] 250
abbrev gaveUp (c at_ : Int) : Ending := .panicked [{ v := .iface 238 (.agg #[.int .i64 c, .int .i64 at_]), recovered := false }]
theorem need_ok (s : ByteArray) (e m p n : Int) (w : World) (h : decide (e - p < n) = false) (hw : wrap64 (e - p) = e - p) :
  Calls Tryz.prog 186 #[strV s e m, .int .i64 p, .int .i64 n] w fun r w' => r = .returned (.tuple #[]) ∧ w' = w.alloc (strO s e m) := by
 go_enter Tryz.func186, Tryz.ntmps186
 go_wp2
 go_end0
 exact ⟨rfl, rfl⟩
theorem need_bad (s : ByteArray) (e m p n : Int) (w : World) (h : decide (e - p < n) = true) (hw : wrap64 (e - p) = e - p) :
  Calls Tryz.prog 186 #[strV s e m, .int .i64 p, .int .i64 n] w fun r w' => r = gaveUp m e ∧ w' = w.alloc (strO s e m) := by
 go_enter Tryz.func186, Tryz.ntmps186
 go_wp2
 exact ⟨rfl, rfl, rfl⟩
def lenR (b : List UInt8) (p e : Nat) (m : Int) : Ending :=
 if e ≤ p + 1 then gaveUp m e
 else if (b.getD (p + 1) 0).toNat = 128 then gaveUp 22 ((p : Int) + 1)
 else if 132 < (b.getD (p + 1) 0).toNat then gaveUp 23 ((p : Int) + 1)
 else if (b.getD (p + 1) 0).toNat < 128 then .returned (.tuple #[.int .i64 ((b.getD (p + 1) 0).toNat : Int), .int .i64 2])
 else if e < p + ((b.getD (p + 1) 0).toNat - 126) then gaveUp m e
 else .returned (.tuple #[.int .i64 (num 0 ((b.drop (p + 2)).take ((b.getD (p + 1) 0).toNat - 128)) : Int), .int .i64 (((b.getD (p + 1) 0).toNat - 126 : Nat) : Int)])
theorem drop_snoc (s : ByteArray) (q k : Nat) (h : q + k < s.size) : (s.data.toList.drop q).take (k + 1) = (s.data.toList.drop q).take k ++ [s[q + k]] := by
 have hl : (s.data.toList.drop q).length = s.size - q := by rw [List.length_drop, size_l]
 rw [List.take_succ_eq_append_getElem (by omega)]
 congr 2
 rw [List.getElem_drop]
 rfl
set_option maxRecDepth 100000 in
set_option maxHeartbeats 1000000 in
theorem length_any (s : ByteArray) (e p : Nat) (m : Int) (w : World) (he : e ≤ s.size) (hm : s.size ≤ 281474976710656) (hp : p < e) :
  Calls Tryz.prog 187 #[strV s (e : Int) m, .int .i64 (p : Int)] w fun r w' => r = lenR s.data.toList p e m ∧ Below w.heap.size w w' := by
 have hsub : wrap64 ((e : Int) - (p : Int)) = (e : Int) - (p : Int) := by unfold wrap64; omega
 have p0 : (0 : Int) ≤ (p : Int) := by omega
 have p1 : (p : Int) ≤ 281474976710656 := by omega
 have B1 : Below w.heap.size w ((w.alloc (strO s e m)).alloc (strO s e m)) := ((Below.refl _ _).alloc (Nat.le_refl _) _).alloc (by simp) _
 have B2 : Below w.heap.size w (((w.alloc (strO s e m)).alloc (strO s e m)).alloc (strO s e m)) := B1.alloc (by simp; omega) _
 unfold lenR
 by_cases h1 : e ≤ p + 1
 ·rw [if_pos h1]
  have d1 : decide ((e : Int) - (p : Int) < 2) = true := decide_eq_true (by omega)
  clear h1 hp he hm
  go_enter Tryz.func187, Tryz.ntmps187
  go_wp2_with (go_at_call 186; refine (need_bad _ _ _ _ _ _ d1 hsub).mono ?_; rintro r w1 ⟨rfl, rfl⟩)
  exact ⟨rfl, rfl, B1⟩
 rw [if_neg h1]
 have hq : p + 1 < s.size := by omega
 have d1 : decide ((e : Int) - (p : Int) < 2) = false := decide_eq_false (by omega)
 rw [getD_s s (p + 1) hq]
 obtain ⟨l, hl⟩ : ∃ l, s[p + 1].toNat = l := ⟨_, rfl⟩
 have hl256 : l < 256 := by rw [← hl]; exact s[p + 1].toNat_lt
 have hwl : wrap64 (s[p + 1].toNat : Int) = (l : Int) := by rw [hl]; unfold wrap64; omega
 have hwl' : Hid (wrap64 (s[p + 1].toNat : Int) = (l : Int)) := hwl
 have l0 : (0 : Int) ≤ (l : Int) := by omega
 have l1 : (l : Int) < 256 := by omega
 have q1 : (p : Int) + 1 < (s.size : Int) := by omega
 rw [hl]
 by_cases h2 : l = 128
 ·rw [if_pos h2]
  have d2 : ((l : Int) == 128) = true := by rw [beq_iff_eq]; omega
  have d3 : decide ((l : Int) < 128) = false := decide_eq_false (by omega)
  clear hl h2 h1
  go_enter Tryz.func187, Tryz.ntmps187
  go_wp2_with fail
  refine (need_ok _ _ _ _ _ _ d1 hsub).mono ?_
  rintro r w1 ⟨rfl, rfl⟩
  clear d1 hsub
  go_wp2_with fail
  exact ⟨rfl, rfl, B1⟩
 rw [if_neg h2]
 have d2 : ((l : Int) == 128) = false := by rw [beq_eq_false_iff_ne]; omega
 by_cases h3 : 132 < l
 ·rw [if_pos h3]
  have d3 : decide ((l : Int) < 128) = false := decide_eq_false (by omega)
  have d4 : decide ((132 : Int) < (l : Int)) = true := decide_eq_true (by omega)
  clear hl h2 h1 h3
  go_enter Tryz.func187, Tryz.ntmps187
  go_wp2_with fail
  refine (need_ok _ _ _ _ _ _ d1 hsub).mono ?_
  rintro r w1 ⟨rfl, rfl⟩
  clear d1 hsub
  go_wp2_with fail
  exact ⟨rfl, rfl, B1⟩
 rw [if_neg h3]
 by_cases h4 : l < 128
 ·rw [if_pos h4]
  have d3 : decide ((l : Int) < 128) = true := decide_eq_true (by omega)
  clear hl h2 h1 h3 h4
  go_enter Tryz.func187, Tryz.ntmps187
  go_wp2_with fail
  refine (need_ok _ _ _ _ _ _ d1 hsub).mono ?_
  rintro r w1 ⟨rfl, rfl⟩
  clear d1 hsub
  go_wp2_with fail
  go_ret2
  exact ⟨by rw [← hwl'.out]; rfl, B1⟩
 rw [if_neg h4]
 have d3 : decide ((l : Int) < 128) = false := decide_eq_false (by omega)
 have d4 : decide ((132 : Int) < (l : Int)) = false := decide_eq_false (by omega)
 obtain ⟨k, hk⟩ : ∃ k, l = 128 + k := ⟨l - 128, by omega⟩
 have hk4 : 1 ≤ k ∧ k ≤ 4 := by omega
 have e1 : l - 126 = k + 2 := by omega
 have e2 : l - 128 = k := by omega
 have e3 : 2 + (l : Int) - 128 = ((k + 2 : Nat) : Int) := by omega
 rw [e1, e2]
 by_cases h5 : e < p + (k + 2)
 ·rw [if_pos h5]
  have d5 : decide ((e : Int) - (p : Int) < ((k + 2 : Nat) : Int)) = true := decide_eq_true (by omega)
  clear hl h2 h1 h3 h4 h5 hk hk4 e1 e2
  go_enter Tryz.func187, Tryz.ntmps187
  go_wp2_with fail
  refine (need_ok _ _ _ _ _ _ d1 hsub).mono ?_
  rintro r w1 ⟨rfl, rfl⟩
  clear d1
  go_wp2_with fail
  refine (need_bad _ _ _ _ _ _ d5 hsub).mono ?_
  rintro r w1 ⟨rfl, rfl⟩
  exact ⟨rfl, rfl, B2⟩
 rw [if_neg h5]
 have d5 : decide ((e : Int) - (p : Int) < ((k + 2 : Nat) : Int)) = false := decide_eq_false (by omega)
 have hks : p + 2 + k ≤ s.size := by omega
 have k4 : k ≤ 4 := hk4.2
 clear hl h2 h1 h3 h4 h5 hk hk4 e1 e2
 have hK : Hid (∀ j (hj : j < k), num 0 ((s.data.toList.drop (p + 2)).take (j + 1)) = num 0 ((s.data.toList.drop (p + 2)).take j) * 256 + (s[p + 2 + j]'(by omega)).toNat) := fun j hj => by
  rw [drop_snoc s (p + 2) j (by omega), BerMath.num_snoc]
 have hN : Hid (∀ j, j < k → num 0 ((s.data.toList.drop (p + 2)).take j) < 16777216) := fun j hj => by
  have h := BerMath.num_lt ((s.data.toList.drop (p + 2)).take j)
  have hl : ((s.data.toList.drop (p + 2)).take j).length ≤ 3 := by rw [List.length_take]; omega
  have : 256 ^ ((s.data.toList.drop (p + 2)).take j).length ≤ 256 ^ 3 := Nat.pow_le_pow_right (by decide) hl
  have e : (256 : Nat) ^ 3 = 16777216 := by decide
  omega
 have pk : (p : Int) + ((k + 2 : Nat) : Int) = ((p + 2 + k : Nat) : Int) := by omega
 have pk2 : (p : Int) + 2 = ((p + 2 : Nat) : Int) := by omega
 have kk : ((k + 2 : Nat) : Int) ≤ 6 := by omega
 have kk0 : (0 : Int) ≤ ((k + 2 : Nat) : Int) := by omega
 have pwk : wrap64 ((p : Int) + ((k + 2 : Nat) : Int)) = ((p + 2 + k : Nat) : Int) := by unfold wrap64; omega
 have pw2 : wrap64 ((p : Int) + 2) = ((p + 2 : Nat) : Int) := by unfold wrap64; omega
 clear pk pk2
 go_enter Tryz.func187, Tryz.ntmps187
 go_wp2_with fail
 refine (need_ok _ _ _ _ _ _ d1 hsub).mono ?_
 rintro r w1 ⟨rfl, rfl⟩
 clear d1
 go_wp2_with fail
 refine (need_ok _ _ _ _ _ _ d5 hsub).mono ?_
 rintro r w1 ⟨rfl, rfl⟩
 clear d5
 go_wp2_with fail
 go_loopw [4, 7] (fun nv qv wr => ∃ (j : Nat), j ≤ k ∧ qv = .int .i64 ((p + 2 + j : Nat) : Int) ∧ nv = .int .i64 (num 0 ((s.data.toList.drop (p + 2)).take j) : Int) ∧ ((w.alloc (strO s e m)).alloc (strO s e m)).alloc (strO s e m) = wr) (fun _ qv _ => p + 2 + k - (intOf qv).toNat)
 case atStart => exact ⟨0, Nat.zero_le _, by go_num, rfl, rfl⟩
 case round =>
  obtain ⟨j, hj, rfl, rfl, rfl⟩ := hrel
  by_cases hlt : j < k
  ·have hst := hK.out j hlt
   have hn := hN.out j hlt
   have hb256 := (s[p + 2 + j]'(by omega)).toNat_lt
   have hor := or_low (num 0 ((s.data.toList.drop (p + 2)).take j) : Int) (s[p + 2 + j]'(by omega)).toNat hb256 (by omega) (by omega)
   have hsn : Hid ((num 0 ((s.data.toList.drop (p + 2)).take (j + 1)) : Int) = (num 0 ((s.data.toList.drop (p + 2)).take j) : Int) * 256 + ((s[p + 2 + j]'(by omega)).toNat : Int)) := by unfold Hid; omega
   have hw64 : wrap64 ((s[p + 2 + j]'(by omega)).toNat : Int) = ((s[p + 2 + j]'(by omega)).toNat : Int) := by unfold wrap64; omega
   have n0 : (0 : Int) ≤ (num 0 ((s.data.toList.drop (p + 2)).take j) : Int) := by omega
   have n1 : (num 0 ((s.data.toList.drop (p + 2)).take j) : Int) < 16777216 := by omega
   clear hst hn hb256 hK hN
   generalize (num 0 ((s.data.toList.drop (p + 2)).take j) : Int) = v at *
   have j0 : (0 : Int) ≤ ((p + 2 + j : Nat) : Int) := by omega
   have j1 : ((p + 2 + j : Nat) : Int) < (s.size : Int) := by omega
   have j2 : ((p + 2 + j : Nat) : Int) < ((p + 2 + k : Nat) : Int) := by omega
   go_wp2
   go_roundw
   case rel => exact ⟨j + 1, by omega, by go_num, by rw [hsn.out], trivial⟩
   case measure => simp [intOf]; omega
  ·have hjk : j = k := by omega
   subst hjk
   clear hK hN hlt
   go_wp2
   go_ret2
   exact ⟨rfl, B2⟩
end Go.Proofs.YtkknenmpdimdbaaGreatDoor

namespace Go.Proofs.YtkknenmpdimdbaaGreatDoor
open Go.RowKit
open BerMath (Hd HR num hAt)
def hdV (h : Hd) : Value := .agg #[.int .i64 (h.cls : Int), .bool h.made, .int .i64 (h.tag : Int), .int .i64 (h.len : Int), .int .i64 (h.size : Int)]
def headR (b : List UInt8) (p e : Nat) (m : Int) : Ending :=
 match hAt b p e with
 | .ok h => .returned (hdV h)
 | .error (some (c, q)) => gaveUp c q
 | .error none => gaveUp m e
theorem and31 (n : Nat) (h : n < 256) : bits .and .u8 (n : Int) 31 = ((n % 32 : Nat) : Int) := by
 have e := u8_and_nat n 31 h (by omega)
 rw [show (31 : Int) = ((31 : Nat) : Int) from rfl, e]
 congr 1
 have := Nat.and_two_pow_sub_one_eq_mod n 5
 simpa using this
theorem and32 (n : Nat) (h : n < 256) : bits .and .u8 (n : Int) 32 = ((n / 32 % 2 * 32 : Nat) : Int) := by
 have e := u8_and_nat n 32 h (by omega)
 rw [show (32 : Int) = ((32 : Nat) : Int) from rfl, e]
 congr 1
 have : ∀ n : Fin 256, n.val &&& 32 = n.val / 32 % 2 * 32 := by decide +kernel
 exact this ⟨n, h⟩
theorem len_parts (b : List UInt8) (p e : Nat) (m : Int) (hp : p < e) (ht : ¬ (b.getD p 0).toNat % 32 = 31) :
  (∃ c q, lenR b p e m = gaveUp c q ∧ headR b p e m = gaveUp c q) ∨
  (∃ len size : Nat, lenR b p e m = .returned (.tuple #[.int .i64 (len : Int), .int .i64 (size : Int)]) ∧ headR b p e m = .returned (hdV ⟨(b.getD p 0).toNat / 64, decide ((b.getD p 0).toNat / 32 % 2 = 1), (b.getD p 0).toNat % 32, len, size⟩)) := by
 unfold lenR headR hAt
 rw [if_neg (by omega : ¬ e ≤ p), if_neg ht]
 by_cases h1 : e ≤ p + 1
 ·rw [if_pos h1, if_pos h1]
  exact Or.inl ⟨_, _, rfl, rfl⟩
 rw [if_neg h1, if_neg h1]
 by_cases h2 : (b.getD (p + 1) 0).toNat = 128
 ·rw [if_pos h2, if_pos h2]
  exact Or.inl ⟨_, _, rfl, rfl⟩
 rw [if_neg h2, if_neg h2]
 by_cases h3 : 132 < (b.getD (p + 1) 0).toNat
 ·rw [if_pos h3, if_pos h3]
  exact Or.inl ⟨_, _, rfl, rfl⟩
 rw [if_neg h3, if_neg h3]
 by_cases h4 : (b.getD (p + 1) 0).toNat < 128
 ·rw [if_pos h4, if_pos h4]
  exact Or.inr ⟨_, 2, rfl, rfl⟩
 rw [if_neg h4, if_neg h4]
 by_cases h5 : e < p + ((b.getD (p + 1) 0).toNat - 126)
 ·rw [if_pos h5, if_pos h5]
  exact Or.inl ⟨_, _, rfl, rfl⟩
 rw [if_neg h5, if_neg h5]
 exact Or.inr ⟨_, _, rfl, rfl⟩
set_option maxRecDepth 100000 in
set_option maxHeartbeats 1000000 in
theorem header_any (s : ByteArray) (e p : Nat) (m : Int) (w : World) (he : e ≤ s.size) (hm : s.size ≤ 281474976710656) (hp : p ≤ e) :
  Calls Tryz.prog 185 #[strV s (e : Int) m, .int .i64 (p : Int)] w fun r w' => r = headR s.data.toList p e m ∧ Below w.heap.size w w' := by
 have hsub : wrap64 ((e : Int) - (p : Int)) = (e : Int) - (p : Int) := by unfold wrap64; omega
 have p0 : (0 : Int) ≤ (p : Int) := by omega
 by_cases h1 : e ≤ p
 ·have hr : headR s.data.toList p e m = gaveUp m e := by unfold headR hAt; rw [if_pos h1]
  rw [hr]
  have d1 : decide ((e : Int) - (p : Int) < 1) = true := decide_eq_true (by omega)
  clear h1 hp he hm hr
  go_enter Tryz.func185, Tryz.ntmps185
  go_wp2_with fail
  refine (need_bad _ _ _ _ _ _ d1 hsub).mono ?_
  rintro r w1 ⟨rfl, rfl⟩
  exact ⟨rfl, rfl, (((Below.refl _ _).alloc (Nat.le_refl _) _).alloc (by simp) _).alloc (by simp; omega) _⟩
 have d1 : decide ((e : Int) - (p : Int) < 1) = false := decide_eq_false (by omega)
 have hps : p < s.size := by omega
 have g0 := getD_s s p hps
 have p1 : (p : Int) < (s.size : Int) := by omega
 obtain ⟨t, ht⟩ : ∃ t, s[p].toNat = t := ⟨_, rfl⟩
 have ht256 : t < 256 := by rw [← ht]; exact s[p].toNat_lt
 have ha31 : bits .and .u8 (s[p].toNat : Int) 31 = ((t % 32 : Nat) : Int) := by rw [ht]; exact and31 t ht256
 by_cases h2 : t % 32 = 31
 ·have hr : headR s.data.toList p e m = gaveUp 21 p := by unfold headR hAt; rw [if_neg h1, g0, ht, if_pos h2]; rfl
  rw [hr]
  have d2 : (((t % 32 : Nat) : Int) == 31) = true := by rw [beq_iff_eq]; omega
  clear h1 hp he hm hr h2
  go_enter Tryz.func185, Tryz.ntmps185
  go_wp2_with fail
  refine (need_ok _ _ _ _ _ _ d1 hsub).mono ?_
  rintro r w1 ⟨rfl, rfl⟩
  go_wp2_with fail
  exact ⟨rfl, rfl, (((Below.refl _ _).alloc (Nat.le_refl _) _).alloc (by simp) _).alloc (by simp; omega) _⟩
 have d2 : (((t % 32 : Nat) : Int) == 31) = false := by rw [beq_eq_false_iff_ne]; omega
 have hlen : ∀ W, Hid (Calls Tryz.prog 187 #[strV s (e : Int) m, .int .i64 (p : Int)] W fun r w' => r = lenR s.data.toList p e m ∧ Below W.heap.size W w') := fun W => length_any s e p m W he hm (by omega)
 rcases len_parts s.data.toList p e m (by omega) (by rw [g0, ht]; exact h2) with ⟨c, q, hl, hr⟩ | ⟨len, size, hl, hr⟩
 ·rw [hr]
  rw [hl] at hlen
  clear h1 hp he hm hr h2 hl
  go_enter Tryz.func185, Tryz.ntmps185
  go_wp2_with fail
  refine (need_ok _ _ _ _ _ _ d1 hsub).mono ?_
  rintro r w1 ⟨rfl, rfl⟩
  go_wp2_with fail
  refine (hlen _).out.mono ?_
  rintro r w1 ⟨rfl, hb⟩
  refine ⟨rfl, rfl, ?_⟩
  exact ((((Below.refl _ _).alloc (Nat.le_refl _) _).alloc (by simp) _).alloc (by simp; omega) _).trans (hb.mono (by simp; omega))
 ·rw [hr]
  rw [hl] at hlen
  rw [g0, ht]
  have ha32 : bits .and .u8 (t : Int) 32 = ((t / 32 % 2 * 32 : Nat) : Int) := and32 t ht256
  have hmd' : Hid ((((t / 32 % 2 * 32 : Nat) : Int) != 0) = decide (t / 32 % 2 = 1)) := by
   unfold Hid
   rcases Nat.mod_two_eq_zero_or_one (t / 32) with h | h <;> rw [h] <;> rfl
  clear h1 hp he hm hr h2 hl
  go_enter Tryz.func185, Tryz.ntmps185
  go_wp2_with fail
  refine (need_ok _ _ _ _ _ _ d1 hsub).mono ?_
  rintro r w1 ⟨rfl, rfl⟩
  go_wp2_with fail
  refine (hlen _).out.mono ?_
  rintro r w1 ⟨rfl, hb⟩
  have c0 : w1.cell? ⟨w.heap.size + 1, 0, none⟩ = some (.int .i64 0) := by rw [hb.cell (by simp)]; simp [go_sem]
  have f0 : w1.frozen? ⟨w.heap.size + 1, 0, none⟩ = false := by rw [hb.frozen (by simp)]; simp [go_sem]
  have c1 : w1.cell? ⟨w.heap.size + 1, 1, none⟩ = some (.bool false) := by rw [hb.cell (by simp)]; simp [go_sem]
  have f1 : w1.frozen? ⟨w.heap.size + 1, 1, none⟩ = false := by rw [hb.frozen (by simp)]; simp [go_sem]
  have c2 : w1.cell? ⟨w.heap.size + 1, 2, none⟩ = some (.int .i64 0) := by rw [hb.cell (by simp)]; simp [go_sem]
  have f2 : w1.frozen? ⟨w.heap.size + 1, 2, none⟩ = false := by rw [hb.frozen (by simp)]; simp [go_sem]
  have c3 : w1.cell? ⟨w.heap.size + 1, 3, none⟩ = some (.int .i64 0) := by rw [hb.cell (by simp)]; simp [go_sem]
  have f3 : w1.frozen? ⟨w.heap.size + 1, 3, none⟩ = false := by rw [hb.frozen (by simp)]; simp [go_sem]
  have c4 : w1.cell? ⟨w.heap.size + 1, 4, none⟩ = some (.int .i64 0) := by rw [hb.cell (by simp)]; simp [go_sem]
  have f4 : w1.frozen? ⟨w.heap.size + 1, 4, none⟩ = false := by rw [hb.frozen (by simp)]; simp [go_sem]
  go_wp2_with fail
  refine bodyPost_ret_by (v := .agg #[.int .i64 ((t : Int) / 64), .bool ((t : Int) / 32 % 2 * 32 != 0), .int .i64 ((t : Int) % 32), .int .i64 (len : Int), .int .i64 (size : Int)]) ?_ rfl ⟨?_, ?_⟩
  ·simp [results, Tryz.results185, go_sem, c0, c1, c2, c3, c4]
  ·unfold hdV
   have e1 : (t : Int) / 64 = ((t / 64 : Nat) : Int) := by omega
   have e2 : (t : Int) % 32 = ((t % 32 : Nat) : Int) := by omega
   have e3 : ((t : Int) / 32 % 2 * 32 != 0) = decide (t / 32 % 2 = 1) := by rw [← hmd'.out]; congr 1
   rw [e1, e2, e3]
  ·exact ((((((((Below.refl _ _).alloc (Nat.le_refl _) _).alloc (by simp) _).alloc (by simp; omega) _).trans (hb.mono (by simp; omega))).setCell (by simp) _).setCell (by simp) _).setCell (by simp) _).setCell (by simp) _ |>.setCell (by simp) _
end Go.Proofs.YtkknenmpdimdbaaGreatDoor

namespace Go.Proofs.YtkknenmpdimdbaaGreatDoor
open Go.RowKit
open BerMath (Hd HR num hAt)
abbrev fltV (c q : Int) : Value := .agg #[.int .i64 c, .int .i64 q]
theorem assert_fault (v : Value) (W : World) : (Instr.typeAssert (.iface 238 v) 20 238 true).run Tryz.prog W = .ok (.tuple #[v, .bool true]) W := by
 simp [Instr.typeAssert, run_underlying Tryz.underlying238, go_sem, Result.andThen]
theorem ended_fault (c q : Int) (w : World) : Calls Tryz.prog 178 #[.iface 238 (fltV c q)] w fun r w' => r = .returned (fltV c q) ∧ Below w.heap.size w w' := by
 have hta := assert_fault (fltV c q)
 go_enter Tryz.func178, Tryz.ntmps178
 go_wp2_with fail
 refine bodyPost_ret_by (v := fltV c q) ?_ rfl ⟨rfl, ?_⟩
 ·simp [results, Tryz.results178, go_sem]
 ·repeat' first | exact Below.refl _ _ | refine Below.setCell ?_ (by simp) _ | refine Below.alloc ?_ (by simp) _ | refine Below.alloc ?_ (by simp; omega) _
theorem ended_nil (w : World) : Calls Tryz.prog 178 #[.nilIface] w fun r w' => r = .returned (fltV 0 0) ∧ Below w.heap.size w w' := by
 go_enter Tryz.func178, Tryz.ntmps178
 go_wp2_with fail
 refine bodyPost_ret_by (v := fltV 0 0) ?_ rfl ⟨rfl, ?_⟩
 ·simp [results, Tryz.results178, go_sem]
 ·exact (Below.refl _ _).alloc (Nat.le_refl _) _
theorem catch_panicking (b : Nat) (c q : Int) (older : List PanicEntry) (w : World) (x0 x1 : Value) (hb : b < w.heap.size)
  (h0 : w.cell? ⟨b, 0, none⟩ = some x0) (h1 : w.cell? ⟨b, 1, none⟩ = some x1) (z0 : w.frozen? ⟨b, 0, none⟩ = false) (z1 : w.frozen? ⟨b, 1, none⟩ = false) :
  CallsD Tryz.prog 177 #[.pointer (some ⟨b, 0, none⟩)] (.panicking ({ v := .iface 238 (fltV c q), recovered := false } :: older)) w fun e u' w' =>
   e = .returned (.tuple #[]) ∧ u' = .panicking ({ v := .iface 238 (fltV c q), recovered := true } :: older) ∧ ∃ w1 y0 y1, Below w.heap.size w w1 ∧ w1.cell? ⟨b, 0, none⟩ = some y0 ∧ w1.cell? ⟨b, 1, none⟩ = some y1 ∧ w' = (w1.setCell ⟨b, 0, none⟩ (.int .i64 c)).setCell ⟨b, 1, none⟩ (.int .i64 q) := by
 refine callsD_of_wpS Tryz.func177 rfl fun c₀ cs hu => ?_
 apply wpS_region
 simp [wpOpsS, go_sem, recoverD, hu, Tryz.ntmps177]
 refine (ended_fault c q w).mono ?_
 rintro e w1 ⟨rfl, hb1⟩
 have k0 : w1.cell? ⟨b, 0, none⟩ = some x0 := by rw [hb1.cell hb]; exact h0
 have k1 : w1.cell? ⟨b, 1, none⟩ = some x1 := by rw [hb1.cell hb]; exact h1
 have f0 : w1.frozen? ⟨b, 0, none⟩ = false := by rw [hb1.frozen hb]; exact z0
 have f1 : w1.frozen? ⟨b, 1, none⟩ = false := by rw [hb1.frozen hb]; exact z1
 simp [go_sem, k0, k1, f0, f1, bodyPostS, results, Tryz.results177]
 exact ⟨w1, hb1, ⟨x0, k0⟩, ⟨x1, k1⟩, rfl⟩
theorem catch_idle (b : Nat) (w : World) (x0 x1 : Value) (hb : b < w.heap.size)
  (h0 : w.cell? ⟨b, 0, none⟩ = some x0) (h1 : w.cell? ⟨b, 1, none⟩ = some x1) (z0 : w.frozen? ⟨b, 0, none⟩ = false) (z1 : w.frozen? ⟨b, 1, none⟩ = false) :
  CallsD Tryz.prog 177 #[.pointer (some ⟨b, 0, none⟩)] .returning w fun e u' w' =>
   e = .returned (.tuple #[]) ∧ u' = .returning ∧ ∃ w1 y0 y1, Below w.heap.size w w1 ∧ w1.cell? ⟨b, 0, none⟩ = some y0 ∧ w1.cell? ⟨b, 1, none⟩ = some y1 ∧ w' = (w1.setCell ⟨b, 0, none⟩ (.int .i64 0)).setCell ⟨b, 1, none⟩ (.int .i64 0) := by
 refine callsD_of_wpS Tryz.func177 rfl fun c₀ cs hu => ?_
 apply wpS_region
 simp [wpOpsS, go_sem, recoverD, hu, Tryz.ntmps177]
 refine (ended_nil w).mono ?_
 rintro e w1 ⟨rfl, hb1⟩
 have k0 : w1.cell? ⟨b, 0, none⟩ = some x0 := by rw [hb1.cell hb]; exact h0
 have k1 : w1.cell? ⟨b, 1, none⟩ = some x1 := by rw [hb1.cell hb]; exact h1
 have f0 : w1.frozen? ⟨b, 0, none⟩ = false := by rw [hb1.frozen hb]; exact z0
 have f1 : w1.frozen? ⟨b, 1, none⟩ = false := by rw [hb1.frozen hb]; exact z1
 cases c₀
 simp_all [go_sem, bodyPostS, results, Tryz.results177]
 exact ⟨w1, hb1, ⟨x0, k0⟩, ⟨x1, k1⟩, rfl⟩
def Read (r : Ending) (c q : Int) : Prop := (r = .returned (.tuple #[]) ∧ c = 0 ∧ q = 0) ∨ r = gaveUp c q
theorem read_back {c q : Int} (h : Read (.returned (.tuple #[])) c q) : c = 0 ∧ q = 0 := by
 rcases h with h | h
 ·exact h.2
 ·unfold gaveUp at h
  cases h
theorem read_gave {c q c' q' : Int} (h : Read (gaveUp c' q') c q) : c = c' ∧ q = q' := by
 rcases h with h | h
 ·have := h.1
  unfold gaveUp at this
  cases this
 ·simp [gaveUp] at h
  exact ⟨h.1.symm, h.2.symm⟩
end Go.Proofs.YtkknenmpdimdbaaGreatDoor

namespace Go.Proofs.YtkknenmpdimdbaaGreatDoor
open Go.RowKit
open BerMath (Hd HR num hAt)
def Cells (W : World) (b : Nat) (vs : List Value) : Prop := ∀ j (hj : j < vs.length), W.cell? ⟨b, j, none⟩ = some vs[j] ∧ W.frozen? ⟨b, j, none⟩ = false
theorem Cells.of_block {W W' : World} {b : Nat} {vs : List Value} (h : Cells W b vs) (e : W'.heap[b]? = W.heap[b]?) : Cells W' b vs := fun j hj => by
 rw [World.cell?_of_block (w := W) (w' := W') (a := ⟨b, j, none⟩) e, World.frozen?_of_block (w := W) (w' := W') (a := ⟨b, j, none⟩) e]
 exact h j hj
theorem Cells.set {W : World} {b : Nat} {vs : List Value} (h : Cells W b vs) (k : Nat) (hk : k < vs.length) (y : Value) : Cells (W.setCell ⟨b, k, none⟩ y) b (vs.set k y) := by
 intro j hj
 have hj' : j < vs.length := by simpa using hj
 rw [World.frozen?_setCell]
 refine ⟨?_, (h j hj').2⟩
 by_cases e : k = j
 ·subst e
  rw [World.cell?_setCell_same W _ _ (h k hk).1]; simp
 ·rw [World.cell?_setCell_other W _ _ _ (by intro hh; injection hh with _ h2 _; exact e h2), (h j hj').1]
  simp [e]
theorem all_any (s : ByteArray) (w : World) : Calls Tryz.prog 181 #[.string s] w fun r w' => r = .returned (strV s s.size 20) ∧ Below w.heap.size w w' := by
 go_enter Tryz.func181, Tryz.ntmps181
 go_wp2_with fail
 refine bodyPost_ret_by (v := strV s s.size 20) ?_ rfl ⟨rfl, ?_⟩
 ·simp [results, Tryz.results181, go_sem]
 ·repeat' first | exact Below.refl _ _ | refine Below.setCell ?_ (by simp) _ | refine Below.alloc ?_ (by simp) _ | refine Below.alloc ?_ (by simp; omega) _
def hdZ : List Value := [.int .i64 0, .bool false, .int .i64 0, .int .i64 0, .int .i64 0]
end Go.Proofs.YtkknenmpdimdbaaGreatDoor

namespace Go.Proofs.YtkknenmpdimdbaaGreatDoor
open Go.RowKit
open BerMath (Hd HR num hAt)
namespace BerMath
def wAt (b : List UInt8) (p e : Nat) : HR :=
 match hAt b p e with
 | .ok h => if e < p + (h.size + h.len) then HR.miss else .ok h
 | .error (some (c, q)) => HR.er c q
 | .error none => HR.miss
theorem num_lt4 (l : List UInt8) (h : l.length ≤ 4) : num 0 l < 4294967296 := by
 have h1 := num_lt l
 have : 256 ^ l.length ≤ 256 ^ 4 := Nat.pow_le_pow_right (by decide) h
 have e : (256 : Nat) ^ 4 = 4294967296 := by decide
 omega
theorem hAt_ok (b : List UInt8) (p e : Nat) (h : Hd) (hh : hAt b p e = .ok h) : 2 ≤ h.size ∧ h.size ≤ 6 ∧ h.len < 4294967296 ∧ h.cls ≤ 3 ∧ h.tag ≤ 30 ∧ p + 2 ≤ e := by
 unfold hAt at hh
 have hb := (b.getD p 0).toNat_lt
 split at hh
 ·cases hh
 split at hh
 ·cases hh
 split at hh
 ·cases hh
 split at hh
 ·cases hh
 split at hh
 ·cases hh
 split at hh
 ·injection hh with hh
  subst hh
  refine ⟨Nat.le_refl _, by show 2 ≤ 6; omega, ?_, ?_, ?_, by omega⟩
  ·show (b.getD (p + 1) 0).toNat < 4294967296; omega
  ·show (b.getD p 0).toNat / 64 ≤ 3; omega
  ·show (b.getD p 0).toNat % 32 ≤ 30; omega
 split at hh
 ·cases hh
 ·injection hh with hh
  have l1 : h.len = num 0 ((b.drop (p + 2)).take ((b.getD (p + 1) 0).toNat - 128)) := by rw [← hh]
  have l2 : h.size = (b.getD (p + 1) 0).toNat - 126 := by rw [← hh]
  have l3 : h.cls = (b.getD p 0).toNat / 64 := by rw [← hh]
  have l4 : h.tag = (b.getD p 0).toNat % 32 := by rw [← hh]
  have l5 := num_lt4 ((b.drop (p + 2)).take ((b.getD (p + 1) 0).toNat - 128)) (by rw [List.length_take]; omega)
  rw [← l1] at l5
  clear hh l1
  refine ⟨by omega, by omega, l5, by omega, by omega, by omega⟩
end BerMath
open BerMath (wAt)
def wholeR (b : List UInt8) (p e : Nat) (m : Int) : Ending :=
 match wAt b p e with
 | .ok h => .returned (hdV h)
 | .error (some (c, q)) => gaveUp c q
 | .error none => gaveUp m e
theorem whole_cases (b : List UInt8) (p e : Nat) (m : Int) :
  (∃ c q, headR b p e m = gaveUp c q ∧ wholeR b p e m = gaveUp c q) ∨
  (∃ h, hAt b p e = .ok h ∧ headR b p e m = .returned (hdV h) ∧ e < p + (h.size + h.len) ∧ wholeR b p e m = gaveUp m e) ∨
  (∃ h, hAt b p e = .ok h ∧ headR b p e m = .returned (hdV h) ∧ ¬ e < p + (h.size + h.len) ∧ wholeR b p e m = .returned (hdV h)) := by
 unfold headR wholeR wAt
 cases hAt b p e with
 | ok h =>
  by_cases h1 : e < p + (h.size + h.len)
  ·refine Or.inr (Or.inl ⟨h, rfl, rfl, h1, ?_⟩)
   simp only [if_pos h1]
  ·refine Or.inr (Or.inr ⟨h, rfl, rfl, h1, ?_⟩)
   simp only [if_neg h1]
 | error o =>
  cases o with
  | some cq =>
   obtain ⟨c, q⟩ := cq
   exact Or.inl ⟨_, _, rfl, rfl⟩
  | none => exact Or.inl ⟨_, _, rfl, rfl⟩
theorem w_sum (x y : Nat) (hx : x ≤ 6) (hy : y < 4294967296) : wrap64 ((x : Int) + (y : Int)) = ((x + y : Nat) : Int) := by unfold wrap64; omega
theorem need_dec (e p n : Nat) : decide ((e : Int) - (p : Int) < (n : Int)) = decide (e < p + n) := by
 rw [decide_eq_decide]; omega
theorem w_dif (e p : Nat) (h : e ≤ 281474976710656) (hp : p ≤ e) : wrap64 ((e : Int) - (p : Int)) = (e : Int) - (p : Int) := by unfold wrap64; omega
set_option maxHeartbeats 1000000 in
theorem whole_any (s : ByteArray) (e p : Nat) (m : Int) (w : World) (he : e ≤ s.size) (hm : s.size ≤ 281474976710656) (hp : p ≤ e) :
  Calls Tryz.prog 184 #[strV s (e : Int) m, .int .i64 (p : Int)] w fun r w' => r = wholeR s.data.toList p e m ∧ Below w.heap.size w w' := by
 have hH : ∀ W, Hid (Calls Tryz.prog 185 #[strV s (e : Int) m, .int .i64 (p : Int)] W fun r w' => r = headR s.data.toList p e m ∧ Below W.heap.size W w') := fun W => header_any s e p m W he hm hp
 have hsub := w_dif e p (Nat.le_trans he hm) hp
 rcases whole_cases s.data.toList p e m with ⟨c, q, h1, h2⟩ | ⟨h, h0, h1, h3, h2⟩ | ⟨h, h0, h1, h3, h2⟩
 ·rw [h2]
  rw [h1] at hH
  clear h1 h2 he hm hp
  go_enter Tryz.func184, Tryz.ntmps184
  go_wp2_with fail
  refine (hH _).out.mono ?_
  rintro r w1 ⟨rfl, hb⟩
  refine ⟨rfl, rfl, ?_⟩
  exact (((Below.refl _ _).alloc (Nat.le_refl _) _).alloc (by simp) _).trans (hb.mono (by simp; omega))
 all_goals
  obtain ⟨k1, k2, k3, _⟩ := BerMath.hAt_ok _ _ _ _ h0
  have hw := w_sum h.size h.len k2 k3
  have hd := need_dec e p (h.size + h.len)
  rw [h2]
  rw [h1] at hH
  have hv : hdV h = .agg #[.int .i64 (h.cls : Int), .bool h.made, .int .i64 (h.tag : Int), .int .i64 (h.len : Int), .int .i64 (h.size : Int)] := rfl
  rw [hv] at hH
  obtain ⟨N, hN⟩ : ∃ N : Int, ((h.size + h.len : Nat) : Int) = N := ⟨_, rfl⟩
  rw [hN] at hw hd
  first | rw [decide_eq_true h3] at hd | rw [decide_eq_false h3] at hd
  clear h1 h2 h3 he hm hp k1 k2 k3 hN h0
  go_enter Tryz.func184, Tryz.ntmps184
  go_wp2_with fail
  refine (hH _).out.mono ?_
  rintro r w1 ⟨rfl, hb⟩
  have b0 : w1.cell? ⟨w.heap.size, 0, none⟩ = some (.string s) := by rw [hb.cell (by simp; omega)]; simp [go_sem]
  have b1 : w1.cell? ⟨w.heap.size, 1, none⟩ = some (.int .i64 (e : Int)) := by rw [hb.cell (by simp; omega)]; simp [go_sem]
  have b2 : w1.cell? ⟨w.heap.size, 2, none⟩ = some (.int .i64 m) := by rw [hb.cell (by simp; omega)]; simp [go_sem]
  have c0 : w1.cell? ⟨w.heap.size + 1, 0, none⟩ = some (.int .i64 0) := by rw [hb.cell (by simp)]; simp [go_sem]
  have c1 : w1.cell? ⟨w.heap.size + 1, 1, none⟩ = some (.bool false) := by rw [hb.cell (by simp)]; simp [go_sem]
  have c2 : w1.cell? ⟨w.heap.size + 1, 2, none⟩ = some (.int .i64 0) := by rw [hb.cell (by simp)]; simp [go_sem]
  have c3 : w1.cell? ⟨w.heap.size + 1, 3, none⟩ = some (.int .i64 0) := by rw [hb.cell (by simp)]; simp [go_sem]
  have c4 : w1.cell? ⟨w.heap.size + 1, 4, none⟩ = some (.int .i64 0) := by rw [hb.cell (by simp)]; simp [go_sem]
  have f0 : w1.frozen? ⟨w.heap.size + 1, 0, none⟩ = false := by rw [hb.frozen (by simp)]; simp [go_sem]
  have f1 : w1.frozen? ⟨w.heap.size + 1, 1, none⟩ = false := by rw [hb.frozen (by simp)]; simp [go_sem]
  have f2 : w1.frozen? ⟨w.heap.size + 1, 2, none⟩ = false := by rw [hb.frozen (by simp)]; simp [go_sem]
  have f3 : w1.frozen? ⟨w.heap.size + 1, 3, none⟩ = false := by rw [hb.frozen (by simp)]; simp [go_sem]
  have f4 : w1.frozen? ⟨w.heap.size + 1, 4, none⟩ = false := by rw [hb.frozen (by simp)]; simp [go_sem]
  have n1 : w.heap.size + 1 < w1.heap.size := by have := hb.size; simp at this; omega
  have n0 : w.heap.size < w1.heap.size := by omega
  have HB : Below w.heap.size w w1 := (((Below.refl _ _).alloc (Nat.le_refl _) _).alloc (by simp) _).trans (hb.mono (by simp; omega))
  clear hb
  go_wp2_with fail
  first
   | (
     refine (need_bad _ _ _ _ _ _ hd hsub).mono ?_
     rintro r w2 ⟨rfl, rfl⟩
     refine ⟨rfl, rfl, ?_⟩
     exact (HB.alloc (Nat.le_of_lt n0) _).alloc (by simp; omega) _)
   | (
     refine (need_ok _ _ _ _ _ _ hd hsub).mono ?_
     rintro r w2 ⟨rfl, rfl⟩
     go_wp2_with fail
     refine bodyPost_ret_by (v := .agg #[.int .i64 (h.cls : Int), .bool h.made, .int .i64 (h.tag : Int), .int .i64 (h.len : Int), .int .i64 (h.size : Int)]) ?_ rfl ⟨rfl, ?_⟩
     ·simp [results, Tryz.results184, go_sem, c0, c1, c2, c3, c4, n0, n1]
     ·refine Below.alloc (Below.alloc (Below.setCell (Below.setCell (Below.setCell (Below.setCell (Below.setCell HB ?_ _) ?_ _) ?_ _) ?_ _) ?_ _) (by simp only [World.size_setCell]; omega) _) (by simp only [World.size_alloc, World.size_setCell]; omega) _
      all_goals exact Nat.le_succ _)
end Go.Proofs.YtkknenmpdimdbaaGreatDoor
