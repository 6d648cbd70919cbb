import Derived.Test.YtekaedlonebipaaElRow
namespace Go.Proofs.Ytekaedlonebipaa
open Go.RowKit Go.Lib
set_option linter.unusedVariables false

/-- What a number counts as. -/
def ct (t : Int) : Int := if t < 0 ∨ 2 < t then 1 else t
theorem ct_three (t : Int) : ct t = 0 ∨ ct t = 1 ∨ ct t = 2 := by unfold ct; split <;> omega
def lo (l : List Int) : Int := l.foldl (fun v t => if ct t < v then ct t else v) 2
def up (l : List Int) : Int := l.foldl (fun v t => if v < ct t then ct t else v) 0
theorem lo_take (l : List Int) (i : Nat) (h : i < l.length) : lo (l.take (i + 1)) = if ct l[i] < lo (l.take i) then ct l[i] else lo (l.take i) := by
  unfold lo
  rw [List.take_add_one, List.getElem?_eq_getElem h, List.foldl_append]
  rfl
theorem up_take (l : List Int) (i : Nat) (h : i < l.length) : up (l.take (i + 1)) = if up (l.take i) < ct l[i] then ct l[i] else up (l.take i) := by
  unfold up
  rw [List.take_add_one, List.getElem?_eq_getElem h, List.foldl_append]
  rfl

set_option maxRecDepth 100000 in
theorem counted_any (t : Int) (w : World) : Calls Try.prog 11 #[.int .i64 t] w fun e w' => e = .returned (.int .i64 (ct t)) ∧ w' = w := by
  by_cases h1 : t < 0
  · have hc : Hid (ct t = 1) := by unfold Hid ct; rw [if_pos (Or.inl h1)]
    have h1' : decide (t < 0) = true := decide_eq_true h1
    go_enter Try.func11, Try.ntmps11
    go_wp2_with fail
    go_ret
    exact ⟨by rw [hc.out]; rfl, rfl⟩
  · by_cases h2 : 2 < t
    · have hc : Hid (ct t = 1) := by unfold Hid ct; rw [if_pos (Or.inr h2)]
      have h2' : t > 2 := h2
      go_enter Try.func11, Try.ntmps11
      go_wp2_with fail
      go_ret
      exact ⟨by rw [hc.out]; rfl, rfl⟩
    · have hc : Hid (ct t = t) := by unfold Hid ct; rw [if_neg (by omega)]
      have h2' : ¬ t > 2 := h2
      go_enter Try.func11, Try.ntmps11
      go_wp2_with fail
      go_ret
      exact ⟨by rw [hc.out]; rfl, rfl⟩

set_option maxRecDepth 100000 in
theorem truth_any (t : Int) (w : World) : Calls Try.prog 12 #[.int .i64 t] w fun e w' => e = .returned (.int .i64 (ct t)) ∧ w' = w := by
  by_cases h1 : t = 0
  · subst h1
    go_enter Try.func12, Try.ntmps12
    go_wp2_with fail
    go_ret
    exact ⟨rfl, rfl⟩
  · by_cases h2 : t = 2
    · subst h2
      go_enter Try.func12, Try.ntmps12
      go_wp2_with fail
      go_ret
      exact ⟨rfl, rfl⟩
    · have hc : Hid (ct t = 1) := by unfold Hid ct; split <;> omega
      have e1 : (t == 0) = false := by simp [h1]
      have e2 : (t == 2) = false := by simp [h2]
      go_enter Try.func12, Try.ntmps12
      go_wp2_with fail
      go_ret
      exact ⟨by rw [hc.out]; rfl, rfl⟩

theorem two_sub (t : Int) : wrap64 (2 - ct t) = 2 - ct t := by
  have := ct_three t
  rw [IntWalk.wrap64_in] <;> omega
set_option maxRecDepth 100000 in
theorem not_any (t : Int) (w : World) : Calls Try.prog 6 #[.int .i64 t] w fun e w' => e = .returned (.int .i64 (2 - ct t)) ∧ w' = w := by
  have h := two_sub t
  go_enter Try.func6, Try.ntmps6
  go_wp2_with (go_at_call 11; refine (counted_any t w).mono ?_; rintro e w2 ⟨rfl, rfl⟩)
  go_ret
  exact ⟨by rw [h]; rfl, rfl⟩
set_option maxRecDepth 100000 in
theorem rNot_any (t : Int) (w : World) : Calls Try.prog 9 #[.int .i64 t] w fun e w' => e = .returned (.int .i64 (2 - ct t)) ∧ w' = w := by
  have h := two_sub t
  go_enter Try.func9, Try.ntmps9
  go_wp2_with (go_at_call 12; refine (truth_any t w).mono ?_; rintro e w2 ⟨rfl, rfl⟩)
  go_ret
  exact ⟨by rw [h]; rfl, rfl⟩
set_option maxRecDepth 100000 in
set_option maxHeartbeats 1000000 in
theorem and_any (l : List Int) (a : Option Addr) (c : Nat) (w : World) (hl : l.length ≤ 140737488355328) (h1 : NRow w a l) :
    Calls Try.prog 4 #[.slice a l.length c] w fun e w' => e = .returned (.int .i64 (lo l)) ∧ w' = w := by
  have hl' : Hid (l.length ≤ 140737488355328) := hl
  clear hl
  go_enter Try.func4, Try.ntmps4
  go_wp2_with fail
  go_loopw [3, 8] (fun vv iv wr => ∃ (i : Nat) (v : Int), i ≤ l.length ∧ iv = .int .i64 (i : Int) ∧ vv = .int .i64 v ∧ Hid (v = lo (l.take i)) ∧ w = wr) (fun _ iv _ => l.length - (intOf iv).toNat)
  case atStart => exact ⟨0, 2, Nat.zero_le _, rfl, rfl, by unfold Hid lo; rw [List.take_zero]; rfl, rfl⟩
  case round =>
    obtain ⟨i, v, hi, rfl, rfl, hv, rfl⟩ := hrel
    have hlb := hl'.out
    have i0 : (0 : Int) ≤ (i : Int) := Int.natCast_nonneg _
    by_cases hlt : i < l.length
    · obtain ⟨b1, o1, rfl, c1⟩ := h1 i hlt
      have i1 : (i : Int) < (l.length : Int) := Int.ofNat_lt.2 hlt
      have ib : (i : Int) ≤ 140737488355328 := by omega
      have hs : Hid (lo (l.take (i + 1)) = _) := lo_take l i hlt
      rw [← hv.out] at hs
      have hlt' : Hid (i < l.length) := hlt
      generalize l[i] = X at *
      clear h1 hi hlb hlt
      have hT := counted_any X w
      generalize ct X = Y at *
      by_cases hy : Y < v
      · have hs' : Hid (lo (l.take (i + 1)) = Y) := by have := hs.out; rwa [if_pos hy] at this
        clear hs
        go_wp2_with (go_at_call 11; refine hT.mono ?_; rintro e w2 ⟨rfl, rfl⟩)
        go_roundw
        case rel => exact ⟨i + 1, _, by have := hlt'.out; omega, by simp, rfl, hs'.out.symm, by trivial⟩
        case measure => have := hlt'.out; simp [intOf]; omega
      · have hs' : Hid (lo (l.take (i + 1)) = v) := by have := hs.out; rwa [if_neg hy] at this
        clear hs
        go_wp2_with (go_at_call 11; refine hT.mono ?_; rintro e w2 ⟨rfl, rfl⟩)
        go_roundw
        case rel => exact ⟨i + 1, _, by have := hlt'.out; omega, by simp, rfl, hs'.out.symm, by trivial⟩
        case measure => have := hlt'.out; simp [intOf]; omega
    · have e : i = l.length := by omega
      subst e
      have i1 : ¬ (l.length : Int) < (l.length : Int) := by omega
      have hv' : Hid (v = lo l) := by have := hv.out; rwa [List.take_length] at this
      clear h1 hlb hi
      go_wp2_with fail
      go_ret
      exact ⟨by rw [hv'.out]; rfl, rfl⟩
set_option maxRecDepth 100000 in
set_option maxHeartbeats 1000000 in
theorem rAnd_any (l : List Int) (a : Option Addr) (c : Nat) (w : World) (hl : l.length ≤ 140737488355328) (h1 : NRow w a l) :
    Calls Try.prog 7 #[.slice a l.length c] w fun e w' => e = .returned (.int .i64 (lo l)) ∧ w' = w := by
  have hl' : Hid (l.length ≤ 140737488355328) := hl
  clear hl
  go_enter Try.func7, Try.ntmps7
  go_wp2_with fail
  go_loopw [3, 4] (fun vv iv wr => ∃ (i : Nat) (v : Int), i ≤ l.length ∧ iv = .int .i64 (i : Int) ∧ vv = .int .i64 v ∧ Hid (v = lo (l.take i)) ∧ w = wr) (fun _ iv _ => l.length - (intOf iv).toNat)
  case atStart => exact ⟨0, 2, Nat.zero_le _, rfl, rfl, by unfold Hid lo; rw [List.take_zero]; rfl, rfl⟩
  case round =>
    obtain ⟨i, v, hi, rfl, rfl, hv, rfl⟩ := hrel
    have hlb := hl'.out
    have i0 : (0 : Int) ≤ (i : Int) := Int.natCast_nonneg _
    by_cases hlt : i < l.length
    · obtain ⟨b1, o1, rfl, c1⟩ := h1 i hlt
      have i1 : (i : Int) < (l.length : Int) := Int.ofNat_lt.2 hlt
      have ib : (i : Int) ≤ 140737488355328 := by omega
      have hs : Hid (lo (l.take (i + 1)) = _) := lo_take l i hlt
      rw [← hv.out] at hs
      have hlt' : Hid (i < l.length) := hlt
      generalize l[i] = X at *
      clear h1 hi hlb hlt
      have hT := truth_any X w
      generalize ct X = Y at *
      by_cases hy : Y < v
      · have hs' : Hid (lo (l.take (i + 1)) = Y) := by have := hs.out; rwa [if_pos hy] at this
        clear hs
        
        go_wp2_with (go_at_call 12; refine hT.mono ?_; rintro e w2 ⟨rfl, rfl⟩)
        go_roundw
        case rel => exact ⟨i + 1, _, by have := hlt'.out; omega, by simp, rfl, hs'.out.symm, by trivial⟩
        case measure => have := hlt'.out; simp [intOf]; omega
      · have hs' : Hid (lo (l.take (i + 1)) = v) := by have := hs.out; rwa [if_neg hy] at this
        clear hs
        
        go_wp2_with (go_at_call 12; refine hT.mono ?_; rintro e w2 ⟨rfl, rfl⟩)
        go_roundw
        case rel => exact ⟨i + 1, _, by have := hlt'.out; omega, by simp, rfl, hs'.out.symm, by trivial⟩
        case measure => have := hlt'.out; simp [intOf]; omega
    · have e : i = l.length := by omega
      subst e
      have i1 : ¬ (l.length : Int) < (l.length : Int) := by omega
      have hv' : Hid (v = lo l) := by have := hv.out; rwa [List.take_length] at this
      clear h1 hlb hi
      go_wp2_with fail
      go_ret
      exact ⟨by rw [hv'.out]; rfl, rfl⟩
set_option maxRecDepth 100000 in
set_option maxHeartbeats 1000000 in
theorem or_any (l : List Int) (a : Option Addr) (c : Nat) (w : World) (hl : l.length ≤ 140737488355328) (h1 : NRow w a l) :
    Calls Try.prog 5 #[.slice a l.length c] w fun e w' => e = .returned (.int .i64 (up l)) ∧ w' = w := by
  have hl' : Hid (l.length ≤ 140737488355328) := hl
  clear hl
  go_enter Try.func5, Try.ntmps5
  go_wp2_with fail
  go_loopw [3, 8] (fun vv iv wr => ∃ (i : Nat) (v : Int), i ≤ l.length ∧ iv = .int .i64 (i : Int) ∧ vv = .int .i64 v ∧ Hid (v = up (l.take i)) ∧ w = wr) (fun _ iv _ => l.length - (intOf iv).toNat)
  case atStart => exact ⟨0, 0, Nat.zero_le _, rfl, rfl, by unfold Hid up; rw [List.take_zero]; rfl, rfl⟩
  case round =>
    obtain ⟨i, v, hi, rfl, rfl, hv, rfl⟩ := hrel
    have hlb := hl'.out
    have i0 : (0 : Int) ≤ (i : Int) := Int.natCast_nonneg _
    by_cases hlt : i < l.length
    · obtain ⟨b1, o1, rfl, c1⟩ := h1 i hlt
      have i1 : (i : Int) < (l.length : Int) := Int.ofNat_lt.2 hlt
      have ib : (i : Int) ≤ 140737488355328 := by omega
      have hs : Hid (up (l.take (i + 1)) = _) := up_take l i hlt
      rw [← hv.out] at hs
      have hlt' : Hid (i < l.length) := hlt
      generalize l[i] = X at *
      clear h1 hi hlb hlt
      have hT := counted_any X w
      generalize ct X = Y at *
      by_cases hy : v < Y
      · have hs' : Hid (up (l.take (i + 1)) = Y) := by have := hs.out; rwa [if_pos hy] at this
        clear hs
        go_wp2_with (go_at_call 11; refine hT.mono ?_; rintro e w2 ⟨rfl, rfl⟩)
        go_roundw
        case rel => exact ⟨i + 1, _, by have := hlt'.out; omega, by simp, rfl, hs'.out.symm, by trivial⟩
        case measure => have := hlt'.out; simp [intOf]; omega
      · have hs' : Hid (up (l.take (i + 1)) = v) := by have := hs.out; rwa [if_neg hy] at this
        clear hs
        go_wp2_with (go_at_call 11; refine hT.mono ?_; rintro e w2 ⟨rfl, rfl⟩)
        go_roundw
        case rel => exact ⟨i + 1, _, by have := hlt'.out; omega, by simp, rfl, hs'.out.symm, by trivial⟩
        case measure => have := hlt'.out; simp [intOf]; omega
    · have e : i = l.length := by omega
      subst e
      have i1 : ¬ (l.length : Int) < (l.length : Int) := by omega
      have hv' : Hid (v = up l) := by have := hv.out; rwa [List.take_length] at this
      clear h1 hlb hi
      go_wp2_with fail
      go_ret
      exact ⟨by rw [hv'.out]; rfl, rfl⟩
set_option maxRecDepth 100000 in
set_option maxHeartbeats 1000000 in
theorem rOr_any (l : List Int) (a : Option Addr) (c : Nat) (w : World) (hl : l.length ≤ 140737488355328) (h1 : NRow w a l) :
    Calls Try.prog 8 #[.slice a l.length c] w fun e w' => e = .returned (.int .i64 (up l)) ∧ w' = w := by
  have hl' : Hid (l.length ≤ 140737488355328) := hl
  clear hl
  go_enter Try.func8, Try.ntmps8
  go_wp2_with fail
  go_loopw [3, 4] (fun vv iv wr => ∃ (i : Nat) (v : Int), i ≤ l.length ∧ iv = .int .i64 (i : Int) ∧ vv = .int .i64 v ∧ Hid (v = up (l.take i)) ∧ w = wr) (fun _ iv _ => l.length - (intOf iv).toNat)
  case atStart => exact ⟨0, 0, Nat.zero_le _, rfl, rfl, by unfold Hid up; rw [List.take_zero]; rfl, rfl⟩
  case round =>
    obtain ⟨i, v, hi, rfl, rfl, hv, rfl⟩ := hrel
    have hlb := hl'.out
    have i0 : (0 : Int) ≤ (i : Int) := Int.natCast_nonneg _
    by_cases hlt : i < l.length
    · obtain ⟨b1, o1, rfl, c1⟩ := h1 i hlt
      have i1 : (i : Int) < (l.length : Int) := Int.ofNat_lt.2 hlt
      have ib : (i : Int) ≤ 140737488355328 := by omega
      have hs : Hid (up (l.take (i + 1)) = _) := up_take l i hlt
      rw [← hv.out] at hs
      have hlt' : Hid (i < l.length) := hlt
      generalize l[i] = X at *
      clear h1 hi hlb hlt
      have hT := truth_any X w
      generalize ct X = Y at *
      by_cases hy : v < Y
      · have hs' : Hid (up (l.take (i + 1)) = Y) := by have := hs.out; rwa [if_pos hy] at this
        clear hs
        have hy2 : Y > v := hy
        go_wp2_with (go_at_call 12; refine hT.mono ?_; rintro e w2 ⟨rfl, rfl⟩)
        go_roundw
        case rel => exact ⟨i + 1, _, by have := hlt'.out; omega, by simp, rfl, hs'.out.symm, by trivial⟩
        case measure => have := hlt'.out; simp [intOf]; omega
      · have hs' : Hid (up (l.take (i + 1)) = v) := by have := hs.out; rwa [if_neg hy] at this
        clear hs
        have hy2 : ¬ Y > v := hy
        go_wp2_with (go_at_call 12; refine hT.mono ?_; rintro e w2 ⟨rfl, rfl⟩)
        go_roundw
        case rel => exact ⟨i + 1, _, by have := hlt'.out; omega, by simp, rfl, hs'.out.symm, by trivial⟩
        case measure => have := hlt'.out; simp [intOf]; omega
    · have e : i = l.length := by omega
      subst e
      have i1 : ¬ (l.length : Int) < (l.length : Int) := by omega
      have hv' : Hid (v = up l) := by have := hv.out; rwa [List.take_length] at this
      clear h1 hlb hi
      go_wp2_with fail
      go_ret
      exact ⟨by rw [hv'.out]; rfl, rfl⟩
set_option maxRecDepth 100000 in
set_option maxHeartbeats 1000000 in
theorem sameTr_any (l : List Int) (a b : Option Addr) (c d : Nat) (w : World) (hl : l.length ≤ 140737488355328) (h1 : NRow w a l) (h2 : NRow w b l) :
    Calls Try.prog 10 #[.slice a l.length c, .slice b l.length d] w fun e w' => e = .returned (.bool true) ∧ ∃ q, w' = w.drewN q := by
  go_enter Try.func10, Try.ntmps10
  go_wp2_with fail
  go_loopw [5] (fun iv wr => ∃ i q : Nat, i ≤ l.length ∧ iv = .int .i64 (i : Int) ∧ Hid (wr = w.drewN q)) (fun iv _ => l.length - (intOf iv).toNat)
  case atStart => exact ⟨0, 0, Nat.zero_le _, rfl, rfl⟩
  case round =>
    obtain ⟨i, q, hi, rfl, hw⟩ := hrel
    by_cases hlt : i < l.length
    · obtain ⟨b1, o1, rfl, c1⟩ := h1 i hlt
      obtain ⟨b2, o2, rfl, c2⟩ := h2 i hlt
      have hE : ∀ a, wr.cell? a = w.cell? a := fun a => by rw [hw.out]; rfl
      rw [← hE] at c1 c2
      have i0 : (0 : Int) ≤ (i : Int) := Int.natCast_nonneg _
      have i1 : (i : Int) < (l.length : Int) := Int.ofNat_lt.2 hlt
      generalize l[i] = X at *
      clear hE h1 h2
      go_wp2_with fail
      go_quiet (fail)
      go_wp2_with fail
      go_roundw
      case rel => exact ⟨i + 1, _, hlt, by simp, by unfold Hid; rw [hw.out, World.drewN_drewN]⟩
      case measure => simp [intOf]; omega
    · have e : i = l.length := by omega
      subst e
      have k1 : ¬ (l.length : Int) < (l.length : Int) := by omega
      go_wp2_with fail
      go_ret
      exact ⟨rfl, _, hw.out⟩
end Go.Proofs.Ytekaedlonebipaa
