import Derived.Test.YtkiidlnimjjnlaaDoorBHdMath
import Derived.Test.YtkiidlnimjjnlaaDoorBInt
namespace Go.Proofs.YtkiidlnimjjnlaaDoor
open Go.RowKit
open BerMath (Hd HR num hAt)

/-- A stretch of bytes. -/
abbrev strV (s : ByteArray) (e m : Int) : Value := .agg #[.string s, .int .i64 e, .int .i64 m]
abbrev strO (s : ByteArray) (e m : Int) : Obj := .cells #[.string s, .int .i64 e, .int .i64 m] 115
/-- A reader that gives up. -/
abbrev gaveUp (c at_ : Int) : Ending := .panicked [{ v := .iface 93 (.agg #[.int .i64 c, .int .i64 at_]), recovered := false }]

theorem need_ok (s : ByteArray) (e m p n : Int) (w : World) (h : decide (e - p < n) = false) (hw : wrap64 (e - p) = e - p) :
    Calls Tryd.prog 76 #[strV s e m, .int .i64 p, .int .i64 n] w fun r w' => r = .returned (.tuple #[]) ∧ w' = w.alloc (strO s e m) := by
  go_enter Tryd.func76, Tryd.ntmps76
  go_wp2
  go_end0
  exact ⟨rfl, rfl⟩
theorem need_bad (s : ByteArray) (e m p n : Int) (w : World) (h : decide (e - p < n) = true) (hw : wrap64 (e - p) = e - p) :
    Calls Tryd.prog 76 #[strV s e m, .int .i64 p, .int .i64 n] w fun r w' => r = gaveUp m e ∧ w' = w.alloc (strO s e m) := by
  go_enter Tryd.func76, Tryd.ntmps76
  go_wp2
  exact ⟨rfl, rfl, rfl⟩

/-- What reading the length ends in, and in which memory. -/
def lenR (b : List UInt8) (p e : Nat) (m : Int) : Ending :=
  if e ≤ p + 1 then gaveUp m e
  else if (b.getD (p + 1) 0).toNat = 128 then gaveUp 22 ((p : Int) + 1)
  else if 132 < (b.getD (p + 1) 0).toNat then gaveUp 23 ((p : Int) + 1)
  else if (b.getD (p + 1) 0).toNat < 128 then .returned (.tuple #[.int .i64 ((b.getD (p + 1) 0).toNat : Int), .int .i64 2])
  else if e < p + ((b.getD (p + 1) 0).toNat - 126) then gaveUp m e
  else .returned (.tuple #[.int .i64 (num 0 ((b.drop (p + 2)).take ((b.getD (p + 1) 0).toNat - 128)) : Int), .int .i64 (((b.getD (p + 1) 0).toNat - 126 : Nat) : Int)])

theorem drop_snoc (s : ByteArray) (q k : Nat) (h : q + k < s.size) : (s.data.toList.drop q).take (k + 1) = (s.data.toList.drop q).take k ++ [s[q + k]] := by
  have hl : (s.data.toList.drop q).length = s.size - q := by rw [List.length_drop, size_l]
  rw [List.take_succ_eq_append_getElem (by omega)]
  congr 2
  rw [List.getElem_drop]
  rfl

set_option maxRecDepth 100000 in
set_option maxHeartbeats 1000000 in
theorem length_any (s : ByteArray) (e p : Nat) (m : Int) (w : World) (he : e ≤ s.size) (hm : s.size ≤ 281474976710656) (hp : p < e) :
    Calls Tryd.prog 77 #[strV s (e : Int) m, .int .i64 (p : Int)] w fun r w' => r = lenR s.data.toList p e m ∧ Below w.heap.size w w' := by
  have hsub : wrap64 ((e : Int) - (p : Int)) = (e : Int) - (p : Int) := by unfold wrap64; omega
  have p0 : (0 : Int) ≤ (p : Int) := by omega
  have p1 : (p : Int) ≤ 281474976710656 := by omega
  have B1 : Below w.heap.size w ((w.alloc (strO s e m)).alloc (strO s e m)) := ((Below.refl _ _).alloc (Nat.le_refl _) _).alloc (by simp) _
  have B2 : Below w.heap.size w (((w.alloc (strO s e m)).alloc (strO s e m)).alloc (strO s e m)) := B1.alloc (by simp; omega) _
  unfold lenR
  by_cases h1 : e ≤ p + 1
  · rw [if_pos h1]
    have d1 : decide ((e : Int) - (p : Int) < 2) = true := decide_eq_true (by omega)
    clear h1 hp he hm
    go_enter Tryd.func77, Tryd.ntmps77
    go_wp2_with (go_at_call 76; refine (need_bad _ _ _ _ _ _ d1 hsub).mono ?_; rintro r w1 ⟨rfl, rfl⟩)
    exact ⟨rfl, rfl, B1⟩
  rw [if_neg h1]
  have hq : p + 1 < s.size := by omega
  have d1 : decide ((e : Int) - (p : Int) < 2) = false := decide_eq_false (by omega)
  rw [getD_s s (p + 1) hq]
  obtain ⟨l, hl⟩ : ∃ l, s[p + 1].toNat = l := ⟨_, rfl⟩
  have hl256 : l < 256 := by rw [← hl]; exact s[p + 1].toNat_lt
  have hwl : wrap64 (s[p + 1].toNat : Int) = (l : Int) := by rw [hl]; unfold wrap64; omega
  have hwl' : Hid (wrap64 (s[p + 1].toNat : Int) = (l : Int)) := hwl
  have l0 : (0 : Int) ≤ (l : Int) := by omega
  have l1 : (l : Int) < 256 := by omega
  have q1 : (p : Int) + 1 < (s.size : Int) := by omega
  rw [hl]
  by_cases h2 : l = 128
  · rw [if_pos h2]
    have d2 : ((l : Int) == 128) = true := by rw [beq_iff_eq]; omega
    have d3 : decide ((l : Int) < 128) = false := decide_eq_false (by omega)
    clear hl h2 h1
    go_enter Tryd.func77, Tryd.ntmps77
    go_wp2_with fail
    refine (need_ok _ _ _ _ _ _ d1 hsub).mono ?_
    rintro r w1 ⟨rfl, rfl⟩
    clear d1 hsub
    go_wp2_with fail
    exact ⟨rfl, rfl, B1⟩
  rw [if_neg h2]
  have d2 : ((l : Int) == 128) = false := by rw [beq_eq_false_iff_ne]; omega
  by_cases h3 : 132 < l
  · rw [if_pos h3]
    have d3 : decide ((l : Int) < 128) = false := decide_eq_false (by omega)
    have d4 : decide ((132 : Int) < (l : Int)) = true := decide_eq_true (by omega)
    clear hl h2 h1 h3
    go_enter Tryd.func77, Tryd.ntmps77
    go_wp2_with fail
    refine (need_ok _ _ _ _ _ _ d1 hsub).mono ?_
    rintro r w1 ⟨rfl, rfl⟩
    clear d1 hsub
    go_wp2_with fail
    exact ⟨rfl, rfl, B1⟩
  rw [if_neg h3]
  by_cases h4 : l < 128
  · rw [if_pos h4]
    have d3 : decide ((l : Int) < 128) = true := decide_eq_true (by omega)
    clear hl h2 h1 h3 h4
    go_enter Tryd.func77, Tryd.ntmps77
    go_wp2_with fail
    refine (need_ok _ _ _ _ _ _ d1 hsub).mono ?_
    rintro r w1 ⟨rfl, rfl⟩
    clear d1 hsub
    go_wp2_with fail
    go_ret2
    exact ⟨by rw [← hwl'.out]; rfl, B1⟩
  rw [if_neg h4]
  have d3 : decide ((l : Int) < 128) = false := decide_eq_false (by omega)
  have d4 : decide ((132 : Int) < (l : Int)) = false := decide_eq_false (by omega)
  obtain ⟨k, hk⟩ : ∃ k, l = 128 + k := ⟨l - 128, by omega⟩
  have hk4 : 1 ≤ k ∧ k ≤ 4 := by omega
  have e1 : l - 126 = k + 2 := by omega
  have e2 : l - 128 = k := by omega
  have e3 : 2 + (l : Int) - 128 = ((k + 2 : Nat) : Int) := by omega
  rw [e1, e2]
  by_cases h5 : e < p + (k + 2)
  · rw [if_pos h5]
    have d5 : decide ((e : Int) - (p : Int) < ((k + 2 : Nat) : Int)) = true := decide_eq_true (by omega)
    clear hl h2 h1 h3 h4 h5 hk hk4 e1 e2
    go_enter Tryd.func77, Tryd.ntmps77
    go_wp2_with fail
    refine (need_ok _ _ _ _ _ _ d1 hsub).mono ?_
    rintro r w1 ⟨rfl, rfl⟩
    clear d1
    go_wp2_with fail
    refine (need_bad _ _ _ _ _ _ d5 hsub).mono ?_
    rintro r w1 ⟨rfl, rfl⟩
    exact ⟨rfl, rfl, B2⟩
  rw [if_neg h5]
  have d5 : decide ((e : Int) - (p : Int) < ((k + 2 : Nat) : Int)) = false := decide_eq_false (by omega)
  have hks : p + 2 + k ≤ s.size := by omega
  have k4 : k ≤ 4 := hk4.2
  clear hl h2 h1 h3 h4 h5 hk hk4 e1 e2
  have hK : Hid (∀ j (hj : j < k), num 0 ((s.data.toList.drop (p + 2)).take (j + 1)) = num 0 ((s.data.toList.drop (p + 2)).take j) * 256 + (s[p + 2 + j]'(by omega)).toNat) := fun j hj => by
    rw [drop_snoc s (p + 2) j (by omega), BerMath.num_snoc]
  have hN : Hid (∀ j, j < k → num 0 ((s.data.toList.drop (p + 2)).take j) < 16777216) := fun j hj => by
    have h := BerMath.num_lt ((s.data.toList.drop (p + 2)).take j)
    have hl : ((s.data.toList.drop (p + 2)).take j).length ≤ 3 := by rw [List.length_take]; omega
    have : 256 ^ ((s.data.toList.drop (p + 2)).take j).length ≤ 256 ^ 3 := Nat.pow_le_pow_right (by decide) hl
    have e : (256 : Nat) ^ 3 = 16777216 := by decide
    omega
  have pk : (p : Int) + ((k + 2 : Nat) : Int) = ((p + 2 + k : Nat) : Int) := by omega
  have pk2 : (p : Int) + 2 = ((p + 2 : Nat) : Int) := by omega
  have kk : ((k + 2 : Nat) : Int) ≤ 6 := by omega
  have kk0 : (0 : Int) ≤ ((k + 2 : Nat) : Int) := by omega
  have pwk : wrap64 ((p : Int) + ((k + 2 : Nat) : Int)) = ((p + 2 + k : Nat) : Int) := by unfold wrap64; omega
  have pw2 : wrap64 ((p : Int) + 2) = ((p + 2 : Nat) : Int) := by unfold wrap64; omega
  clear pk pk2
  go_enter Tryd.func77, Tryd.ntmps77
  go_wp2_with fail
  refine (need_ok _ _ _ _ _ _ d1 hsub).mono ?_
  rintro r w1 ⟨rfl, rfl⟩
  clear d1
  go_wp2_with fail
  refine (need_ok _ _ _ _ _ _ d5 hsub).mono ?_
  rintro r w1 ⟨rfl, rfl⟩
  clear d5
  go_wp2_with fail
  go_loopw [4, 7] (fun nv qv wr => ∃ (j : Nat), j ≤ k ∧ qv = .int .i64 ((p + 2 + j : Nat) : Int) ∧ nv = .int .i64 (num 0 ((s.data.toList.drop (p + 2)).take j) : Int) ∧ ((w.alloc (strO s e m)).alloc (strO s e m)).alloc (strO s e m) = wr) (fun _ qv _ => p + 2 + k - (intOf qv).toNat)
  case atStart => exact ⟨0, Nat.zero_le _, by go_num, rfl, rfl⟩
  case round =>
    obtain ⟨j, hj, rfl, rfl, rfl⟩ := hrel
    by_cases hlt : j < k
    · have hst := hK.out j hlt
      have hn := hN.out j hlt
      have hb256 := (s[p + 2 + j]'(by omega)).toNat_lt
      have hor := or_low (num 0 ((s.data.toList.drop (p + 2)).take j) : Int) (s[p + 2 + j]'(by omega)).toNat hb256 (by omega) (by omega)
      have hsn : Hid ((num 0 ((s.data.toList.drop (p + 2)).take (j + 1)) : Int) = (num 0 ((s.data.toList.drop (p + 2)).take j) : Int) * 256 + ((s[p + 2 + j]'(by omega)).toNat : Int)) := by unfold Hid; omega
      have hw64 : wrap64 ((s[p + 2 + j]'(by omega)).toNat : Int) = ((s[p + 2 + j]'(by omega)).toNat : Int) := by unfold wrap64; omega
      have n0 : (0 : Int) ≤ (num 0 ((s.data.toList.drop (p + 2)).take j) : Int) := by omega
      have n1 : (num 0 ((s.data.toList.drop (p + 2)).take j) : Int) < 16777216 := by omega
      clear hst hn hb256 hK hN
      generalize (num 0 ((s.data.toList.drop (p + 2)).take j) : Int) = v at *
      have j0 : (0 : Int) ≤ ((p + 2 + j : Nat) : Int) := by omega
      have j1 : ((p + 2 + j : Nat) : Int) < (s.size : Int) := by omega
      have j2 : ((p + 2 + j : Nat) : Int) < ((p + 2 + k : Nat) : Int) := by omega
      go_wp2
      go_roundw
      case rel => exact ⟨j + 1, by omega, by go_num, by rw [hsn.out], trivial⟩
      case measure => simp [intOf]; omega
    · have hjk : j = k := by omega
      subst hjk
      clear hK hN hlt
      go_wp2
      go_ret2
      exact ⟨rfl, B2⟩
end Go.Proofs.YtkiidlnimjjnlaaDoor
