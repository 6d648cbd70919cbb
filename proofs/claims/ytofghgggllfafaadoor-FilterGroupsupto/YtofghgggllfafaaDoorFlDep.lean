import Derived.Test.YtofghgggllfafaaDoorFlChM
namespace Go.Proofs.YtofghgggllfafaaDoor
open Go.RowKit
set_option linter.unusedVariables false

theorem dpt_nil (xs : List Nod) : dpt (xs.take 0) = 0 := by simp [dpt]
set_option maxRecDepth 100000 in
set_option maxHeartbeats 2000000 in
theorem rDepth_any (xs : List Nod) (a : Option Addr) (c : Nat) (w : World) (hn : xs.length ≤ 1048577) (h1 : FRow w a xs) :
    Calls Tryd.prog 14 #[.slice a xs.length c] w fun e w' => e = .returned (.int .i64 (dpt xs)) ∧ w' = w := by
  have H : Hid (FRow w a xs) := h1
  clear h1
  go_enter Tryd.func14, Tryd.ntmps14
  go_wp2_with fail
  go_loopw [3, 4] (fun mv iv wr => ∃ (i : Nat) (m : Int), i ≤ xs.length ∧ iv = .int .i64 (i : Int) ∧ mv = .int .i64 m ∧ Hid (m = dpt (xs.take i)) ∧ wr = w) (fun _ iv _ => xs.length - (intOf iv).toNat)
  case atStart => exact ⟨0, 0, Nat.zero_le _, rfl, rfl, (dpt_nil xs).symm, rfl⟩
  case round =>
    obtain ⟨i, m, hi, rfl, rfl, hI, rfl⟩ := hrel
    by_cases hlt : i < xs.length
    · obtain ⟨b1, o1, rfl, c0, z⟩ := H.out.at i hlt
      clear z
      have hd := dpt_take hlt
      rw [← hI.out] at hd
      have i0 : (0 : Int) ≤ (i : Int) := Int.natCast_nonneg _
      have i1 : (i : Int) < (xs.length : Int) := Int.ofNat_lt.2 hlt
      generalize xs[i].dep = D at *
      have hlt' : Hid (i < xs.length) := hlt
      clear hlt
      by_cases hm : m < D
      · rw [if_pos hm] at hd
        have hd' : Hid (dpt (xs.take (i + 1)) = D) := hd
        clear hd
        have hm2 : D > m := hm
        go_wp2_with fail
        go_roundw
        case rel => exact ⟨i + 1, D, hlt'.out, by simp, by simp, hd'.out.symm, trivial⟩
        case measure => have := hlt'.out; simp [intOf]; omega
      · rw [if_neg hm] at hd
        have hd' : Hid (dpt (xs.take (i + 1)) = m) := hd
        clear hd
        go_wp2_with fail
        go_roundw
        case rel => exact ⟨i + 1, m, hlt'.out, by simp, by simp, hd'.out.symm, trivial⟩
        case measure => have := hlt'.out; simp [intOf]; omega
    · have hie : i = xs.length := by omega
      subst hie
      rw [List.take_length] at hI
      have k1 : ¬ (xs.length : Int) < (xs.length : Int) := by omega
      go_wp2_with fail
      go_ret
      exact ⟨by rw [← hI.out]; rfl, rfl⟩

set_option maxRecDepth 100000 in
set_option maxHeartbeats 2000000 in
theorem depth_any (xs : List Nod) (a : Option Addr) (c : Nat) (w : World) (hn : xs.length ≤ 1048577) (h1 : FRow w a xs) :
    Calls Tryd.prog 17 #[.slice a xs.length c] w fun e w' => e = .returned (.int .i64 (dpt xs)) ∧ Below w.heap.size w w' := by
  have H : Hid (FRow w a xs) := h1
  clear h1
  go_enter Tryd.func17, Tryd.ntmps17
  go_wp2_with fail
  go_loopw [3, 8] (fun mv iv wr => ∃ (i : Nat) (m : Int), i ≤ xs.length ∧ iv = .int .i64 (i : Int) ∧ mv = .int .i64 m ∧ Hid (m = dpt (xs.take i) ∧ Below w.heap.size w wr)) (fun _ iv _ => xs.length - (intOf iv).toNat)
  case atStart => exact ⟨0, 0, Nat.zero_le _, rfl, rfl, (dpt_nil xs).symm, Below.refl _ _⟩
  case round =>
    obtain ⟨i, m, hi, rfl, rfl, hI⟩ := hrel
    by_cases hlt : i < xs.length
    · obtain ⟨b1, o1, rfl, c0, c1, c2, c3, c4, c5, c6, c7, c8⟩ := (H.out.below hI.out.2).at i hlt
      have hd := dpt_take hlt
      rw [← hI.out.1] at hd
      have i0 : (0 : Int) ≤ (i : Int) := Int.natCast_nonneg _
      have i1 : (i : Int) < (xs.length : Int) := Int.ofNat_lt.2 hlt
      obtain ⟨⟨xd, xo, xs', xv, xi, xa, xn, xl, xf, xr, xb⟩, hx⟩ : ∃ x, xs[i] = x := ⟨_, rfl⟩
      rw [hx] at c0 c1 c2 c3 c4 c5 c6 c7 c8 hd
      dsimp only at c0 c1 c2 c3 c4 c5 c6 c7 c8 hd
      obtain ⟨wA, hwA⟩ : ∃ W, wr.alloc (.cells #[.int .i64 xd, .int .i64 xo, .string (S xs'), .string (S xv), .string (S xi), .slice xa xl.length xn, .string (S xf), .string (S xr), .bool xb] 38) = W := ⟨_, rfl⟩
      have bA : Box wA wr.heap.size 38 #[.int .i64 xd, .int .i64 xo, .string (S xs'), .string (S xv), .string (S xi), .slice xa xl.length xn, .string (S xf), .string (S xr), .bool xb] := by rw [← hwA]; exact Box.new _ _ _
      have hbA : Hid (Below w.heap.size w wA) := by rw [← hwA]; exact hI.out.2.alloc hI.out.2.size _
      have e0 : wA.cell? ⟨wr.heap.size, 0, none⟩ = some (.int .i64 xd) := (bA.cell 0 (by simp)).1
      have hlt' : Hid (i < xs.length) := hlt
      clear hlt bA hx
      go_upto_region 5 with fail
      clear c0 c1 c2 c3 c4 c5 c6 c7 c8 hwA
      by_cases hm : m < xd
      · rw [if_pos hm] at hd
        have hd' : Hid (dpt (xs.take (i + 1)) = xd) := hd
        clear hd
        have hmx : max m xd = xd := by omega
        go_wp2_with fail
        go_roundw
        case rel => exact ⟨i + 1, xd, hlt'.out, by simp, by simp, hd'.out.symm, hbA.out⟩
        case measure => have := hlt'.out; simp [intOf]; omega
      · rw [if_neg hm] at hd
        have hd' : Hid (dpt (xs.take (i + 1)) = m) := hd
        clear hd
        have hmx : max m xd = m := by omega
        go_wp2_with fail
        go_roundw
        case rel => exact ⟨i + 1, m, hlt'.out, by simp, by simp, hd'.out.symm, hbA.out⟩
        case measure => have := hlt'.out; simp [intOf]; omega
    · have hie : i = xs.length := by omega
      subst hie
      rw [List.take_length] at hI
      have k1 : ¬ (xs.length : Int) < (xs.length : Int) := by omega
      go_wp2_with fail
      go_ret
      exact ⟨by rw [← hI.out.1]; rfl, hI.out.2⟩
end Go.Proofs.YtofghgggllfafaaDoor
