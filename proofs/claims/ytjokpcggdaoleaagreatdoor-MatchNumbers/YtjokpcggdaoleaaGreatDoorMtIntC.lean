import Derived.Test.YtjokpcggdaoleaaGreatDoorMtIntN
import Derived.BigQuiet
namespace Go.Proofs.YtjokpcggdaoleaaGreatDoor
open Go.RowKit
set_option linter.unusedVariables false

def orI (x y : Int) : Int := if x = 0 then y else x
set_option maxHeartbeats 1000000 in
theorem or_any (g : Nat) (x y : Int) (w : World) (h0 : w.cell? ⟨g, 0, none⟩ = some (.int .i64 x)) (h1 : w.cell? ⟨g, 1, none⟩ = some (.int .i64 y)) :
    Calls Tryz.prog 257 #[.slice (some ⟨g, 0, none⟩) 2 2] w fun e w' => e = .returned (.int .i64 (orI x y)) ∧ w' = w := by
  go_enter Tryz.func257, Tryz.ntmps257
  go_wp2_with fail
  go_loopw [8] (fun iv wr => ∃ i : Nat, i ≤ 2 ∧ iv = .int .i64 (i : Int) ∧ Hid (0 < i → x = 0) ∧ Hid (1 < i → y = 0) ∧ wr = w) (fun iv _ => 2 - (intOf iv).toNat)
  case atStart => exact ⟨0, by omega, rfl, by unfold Hid; omega, by unfold Hid; omega, rfl⟩
  case round =>
    obtain ⟨i, hi, rfl, hx, hy, rfl⟩ := hrel
    have hi3 : i = 0 ∨ i = 1 ∨ i = 2 := by omega
    rcases hi3 with rfl | rfl | rfl
    · by_cases h : x = 0
      · have hb : (x != 0) = false := by simp [h]
        go_wp2_with fail
        exact ⟨⟨1, by omega, rfl, fun _ => h, fun h => by omega, trivial⟩, by decide⟩
      · have hb : (x != 0) = true := by simp [h]
        have e : orI x y = x := if_neg h
        go_wp2_with fail
        go_ret
        exact ⟨by rw [e]; rfl, rfl⟩
    · have hx0 : x = 0 := hx.out (by omega)
      by_cases h : y = 0
      · have hb : (y != 0) = false := by simp [h]
        go_wp2_with fail
        exact ⟨⟨2, by omega, rfl, fun _ => hx0, fun _ => h, trivial⟩, by decide⟩
      · have hb : (y != 0) = true := by simp [h]
        have e : orI x y = y := if_pos hx0
        go_wp2_with fail
        go_ret
        exact ⟨by rw [e]; rfl, rfl⟩
    · have hx0 : x = 0 := hx.out (by omega)
      have hy0 : y = 0 := hy.out (by omega)
      have e : orI x y = 0 := (if_pos hx0).trans hy0
      go_wp2_with fail
      go_ret
      exact ⟨by rw [e]; rfl, rfl⟩
/-- Numbers without a sign, as the program compares them. -/
def cmpN (a b : List UInt8) : Int := orI (Lib.compareInt a.length b.length) (Lib.compareBytes a b)
set_option maxHeartbeats 1000000 in
theorem cmpN_any (a b : ByteArray) (w : World) : Calls Tryz.prog 256 #[.string a, .string b] w fun e w' => e = .returned (.int .i64 (cmpN a.data.toList b.data.toList)) ∧ Below w.heap.size w w' := by
  have h1 : Hid (Calls Tryz.prog 258 #[.int .i64 (a.size : Int), .int .i64 (b.size : Int)] w fun e w' => e = .returned (.int .i64 (Lib.compareInt (a.size : Int) (b.size : Int))) ∧ w' = w) := Tryz.cmp_Compare_int _ _ w
  have h2 : Hid (Calls Tryz.prog 93 #[.string a, .string b] w fun e w' => e = .returned (.int .i64 (Lib.compareBytes a.data.toList b.data.toList)) ∧ w' = w) := Tryz.strings_Compare a b w
  unfold cmpN
  rw [size_l a, size_l b]
  generalize Lib.compareInt (a.size : Int) (b.size : Int) = x at *
  generalize Lib.compareBytes a.data.toList b.data.toList = y at *
  obtain ⟨W1, hW1⟩ : ∃ W1, w.alloc (.cells #[.int .i64 x, .int .i64 y] 3) = W1 := ⟨_, rfl⟩
  have G1 : W1.heap[w.heap.size]? = some (.cells #[.int .i64 x, .int .i64 y] 3 (0, 0)) := by rw [← hW1]; exact heap_alloc_last w _
  have hB : Hid (Below w.heap.size w W1) := by unfold Hid; rw [← hW1]; exact (Below.refl _ _).alloc (Nat.le_refl _) _
  have h3 : Hid (Calls Tryz.prog 257 #[.slice (some ⟨w.heap.size, 0, none⟩) 2 2] W1 fun e w' => e = .returned (.int .i64 (orI x y)) ∧ w' = W1) := or_any w.heap.size x y W1 (by rw [cell_of_row W1 _ _ _ _ _ G1]; rfl) (by rw [cell_of_row W1 _ _ _ _ _ G1]; rfl)
  clear G1
  go_enter Tryz.func256, Tryz.ntmps256
  go_wp2_with (first | (go_at_call 258; refine h1.out.mono ?_; rintro e w' ⟨rfl, rfl⟩) | (go_at_call 93; refine h2.out.mono ?_; rintro e w' ⟨rfl, rfl⟩) | (go_at_call 257; refine h3.out.mono ?_; rintro e w' ⟨rfl, rfl⟩))
  go_ret
  exact ⟨rfl, hB.out⟩
/-- Whole numbers, as the program compares them. -/
def cmpI (a b : List UInt8) : Int :=
  if Lib.hasPrefix a [45] then (if Lib.hasPrefix b [45] then cmpN (Lib.trimPrefix b [45]) (Lib.trimPrefix a [45]) else -1)
  else if Lib.hasPrefix b [45] then 1 else cmpN (Lib.trimPrefix a [45]) (Lib.trimPrefix b [45])
set_option maxHeartbeats 1000000 in
theorem cmpI_any (a b : ByteArray) (w : World) : Calls Tryz.prog 253 #[.string a, .string b] w fun e w' => e = .returned (.int .i64 (cmpI a.data.toList b.data.toList)) ∧ Below w.heap.size w w' := by
  have h1 : Hid (Calls Tryz.prog 79 #[.string a, .string ⟨#[45]⟩] w fun e w' => e = .returned (.tuple #[.string (S (Lib.trimPrefix a.data.toList [45])), .bool (Lib.hasPrefix a.data.toList [45])]) ∧ w' = w) := Tryz.strings_CutPrefix a ⟨#[45]⟩ w
  have h2 : Hid (Calls Tryz.prog 79 #[.string b, .string ⟨#[45]⟩] w fun e w' => e = .returned (.tuple #[.string (S (Lib.trimPrefix b.data.toList [45])), .bool (Lib.hasPrefix b.data.toList [45])]) ∧ w' = w) := Tryz.strings_CutPrefix b ⟨#[45]⟩ w
  have h3 := cmpN_any (S (Lib.trimPrefix b.data.toList [45])) (S (Lib.trimPrefix a.data.toList [45])) w
  have h4 := cmpN_any (S (Lib.trimPrefix a.data.toList [45])) (S (Lib.trimPrefix b.data.toList [45])) w
  rw [S_l, S_l] at h3 h4
  unfold cmpI
  generalize cmpN (Lib.trimPrefix b.data.toList [45]) (Lib.trimPrefix a.data.toList [45]) = r1 at *
  generalize cmpN (Lib.trimPrefix a.data.toList [45]) (Lib.trimPrefix b.data.toList [45]) = r2 at *
  generalize S (Lib.trimPrefix a.data.toList [45]) = A at *
  generalize S (Lib.trimPrefix b.data.toList [45]) = B at *
  generalize Lib.hasPrefix a.data.toList [45] = pa at *
  generalize Lib.hasPrefix b.data.toList [45] = pb at *
  have h3' : Hid (Calls Tryz.prog 256 #[.string B, .string A] w fun e w' => e = .returned (.int .i64 r1) ∧ Below w.heap.size w w') := h3
  have h4' : Hid (Calls Tryz.prog 256 #[.string A, .string B] w fun e w' => e = .returned (.int .i64 r2) ∧ Below w.heap.size w w') := h4
  clear h3 h4
  cases pa <;> cases pb
  · go_enter Tryz.func253, Tryz.ntmps253
    go_wp2_with fail
    refine h1.out.mono ?_
    rintro e w' ⟨rfl, rfl⟩
    go_wp2_with fail
    refine h2.out.mono ?_
    rintro e w' ⟨rfl, rfl⟩
    go_wp2_with fail
    refine h4'.out.mono ?_
    rintro e w1 ⟨rfl, hb1⟩
    go_wp2_with fail
    go_ret
    exact ⟨rfl, hb1⟩
  · go_enter Tryz.func253, Tryz.ntmps253
    go_wp2_with fail
    refine h1.out.mono ?_
    rintro e w' ⟨rfl, rfl⟩
    go_wp2_with fail
    refine h2.out.mono ?_
    rintro e w' ⟨rfl, rfl⟩
    go_wp2_with fail
    go_ret
    exact ⟨rfl, Below.refl _ _⟩
  · go_enter Tryz.func253, Tryz.ntmps253
    go_wp2_with fail
    refine h1.out.mono ?_
    rintro e w' ⟨rfl, rfl⟩
    go_wp2_with fail
    refine h2.out.mono ?_
    rintro e w' ⟨rfl, rfl⟩
    go_wp2_with fail
    go_ret
    exact ⟨rfl, Below.refl _ _⟩
  · go_enter Tryz.func253, Tryz.ntmps253
    go_wp2_with fail
    refine h1.out.mono ?_
    rintro e w' ⟨rfl, rfl⟩
    go_wp2_with fail
    refine h2.out.mono ?_
    rintro e w' ⟨rfl, rfl⟩
    go_wp2_with fail
    refine h3'.out.mono ?_
    rintro e w1 ⟨rfl, hb1⟩
    go_wp2_with fail
    go_ret
    exact ⟨rfl, hb1⟩
/-- As the syntax compares them: normal forms. -/
def cmpV (a b : List UInt8) : Int := if intOk a && intOk b then cmpI a b else Lib.compareBytes a b
set_option maxHeartbeats 1000000 in
theorem intCmp_any (a b : ByteArray) (w : World) : Calls Tryz.prog 249 #[intX, .string a, .string b] w fun e w' => e = .returned (.int .i64 (cmpV a.data.toList b.data.toList)) ∧ Below w.heap.size w w' := by
  have hB : Hid (Below w.heap.size w (w.alloc (.cells #[] 66))) := (Below.refl _ _).alloc (Nat.le_refl _) _
  have h1 : ∀ W, Hid (Calls Tryz.prog 252 #[.string a] W fun e w' => e = .returned (.bool (intOk a.data.toList)) ∧ Below W.heap.size W w') := fun W => isInteger_any a W
  have h2 : ∀ W, Hid (Calls Tryz.prog 252 #[.string b] W fun e w' => e = .returned (.bool (intOk b.data.toList)) ∧ Below W.heap.size W w') := fun W => isInteger_any b W
  have h3 : ∀ W, Hid (Calls Tryz.prog 253 #[.string a, .string b] W fun e w' => e = .returned (.int .i64 (cmpI a.data.toList b.data.toList)) ∧ Below W.heap.size W w') := fun W => cmpI_any a b W
  have h4 : ∀ W, Hid (Calls Tryz.prog 93 #[.string a, .string b] W fun e w' => e = .returned (.int .i64 (Lib.compareBytes a.data.toList b.data.toList)) ∧ w' = W) := fun W => Tryz.strings_Compare a b W
  unfold cmpV
  generalize cmpI a.data.toList b.data.toList = r1 at *
  generalize Lib.compareBytes a.data.toList b.data.toList = r2 at *
  generalize intOk a.data.toList = ba at *
  generalize intOk b.data.toList = bb at *
  cases ba
  · go_enter Tryz.func249, Tryz.ntmps249
    go_wp2_with (first | (go_at_call 252; refine (h1 _).out.mono ?_; rintro e w1 ⟨rfl, hb1⟩) | (go_at_call 93; refine (h4 _).out.mono ?_; rintro e w' ⟨rfl, rfl⟩))
    go_ret
    exact ⟨rfl, hB.out.trans (hb1.mono hB.out.size)⟩
  · cases bb
    · go_enter Tryz.func249, Tryz.ntmps249
      go_wp2_with fail
      refine (h1 _).out.mono ?_
      rintro e w1 ⟨rfl, hb1⟩
      have o1 : Hid (Below w.heap.size w w1) := hB.out.trans (hb1.mono hB.out.size)
      clear hb1
      go_wp2_with fail
      refine (h2 _).out.mono ?_
      rintro e w2 ⟨rfl, hb2⟩
      have o2 : Hid (Below w.heap.size w w2) := o1.out.trans (hb2.mono o1.out.size)
      clear hb2
      go_wp2_with (go_at_call 93; refine (h4 _).out.mono ?_; rintro e w' ⟨rfl, rfl⟩)
      go_ret
      exact ⟨rfl, o2.out⟩
    · go_enter Tryz.func249, Tryz.ntmps249
      go_wp2_with fail
      refine (h1 _).out.mono ?_
      rintro e w1 ⟨rfl, hb1⟩
      have o1 : Hid (Below w.heap.size w w1) := hB.out.trans (hb1.mono hB.out.size)
      clear hb1
      go_wp2_with fail
      refine (h2 _).out.mono ?_
      rintro e w2 ⟨rfl, hb2⟩
      have o2 : Hid (Below w.heap.size w w2) := o1.out.trans (hb2.mono o1.out.size)
      clear hb2
      go_wp2_with fail
      refine (h3 _).out.mono ?_
      rintro e w3 ⟨rfl, hb3⟩
      have o3 : Hid (Below w.heap.size w w3) := o2.out.trans (hb3.mono o2.out.size)
      clear hb3
      go_wp2_with fail
      go_ret
      exact ⟨rfl, o3.out⟩
end Go.Proofs.YtjokpcggdaoleaaGreatDoor
