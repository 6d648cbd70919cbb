import Derived.Test.YtkecaeceeldcaaaGreatDoorMtTxt3
namespace Go.Proofs.YtkecaeceeldcaaaGreatDoor
open Go.RowKit
open TextMath (fold squeeze check)
set_option linter.unusedVariables false

abbrev prL1 : List UInt8 := [65, 66, 67, 68, 69, 70, 71, 72, 73, 74, 75, 76, 77, 78, 79, 80, 81, 82, 83, 84, 85, 86, 87, 88, 89, 90, 97, 98, 99, 100, 101, 102, 103, 104, 105, 106, 107]
abbrev prL2 : List UInt8 := [108, 109, 110, 111, 112, 113, 114, 115, 116, 117, 118, 119, 120, 121, 122, 48, 49, 50, 51, 52, 53, 54, 55, 56, 57, 32, 39, 40, 41, 43, 44, 45, 46, 47, 58, 61, 63]
abbrev prS : ByteArray := ⟨(prL1.append prL2).toArray⟩
abbrev prL : List UInt8 := prL1 ++ prL2
def phIn (l : List UInt8) : Bool := (Lib.trimLeftS l prL).isEmpty
theorem madePh_any (l : List UInt8) (w : World) : Calls Tryz.prog 237 #[.string (S l), .string prS] w fun e w' => e = .returned (.bool (phIn l)) ∧ Below w.heap.size w w' :=
  madeOfG_any prL prS (fun s w => Any.strings_TrimLeft_laid Tryz.lays161 (by kernel_rfl) s prS w (by decide) (ascii_of_all rfl)) l w
/-- What a telephone number is without its blanks and hyphens, folded. -/
def phN (l : List UInt8) : List UInt8 := fold (Lib.replaceAll (Lib.replaceAll l [32] []) [45] [])
set_option maxRecDepth 100000 in
set_option maxHeartbeats 1000000 in
theorem phP_any (m : Int) (l : List UInt8) (q : Int) (hl : l.length ≤ 4194304) (W : World) (hM : MaxL m W) : Calls Tryz.prog 253 #[exX, .string (S l), .int .i64 q] W fun e w' => e = .returned (.tuple #[.string (nrmL (phIn l) (phN l)), .bool (phIn l)]) ∧ Below W.heap.size W w' := by
  have hB : Hid (Below W.heap.size W (W.alloc (.cells #[] 75))) := (Below.refl _ _).alloc (Nat.le_refl _) _
  have hM0 : Hid (MaxL m (W.alloc (.cells #[] 75))) := hM.below hB.out
  have h1 : ∀ W, Hid (Calls Tryz.prog 237 #[.string (S l), .string prS] W fun e w' => e = .returned (.bool (phIn l)) ∧ Below W.heap.size W w') := fun W => madePh_any l W
  have h2 : ∀ W, MaxL m W → Hid (Calls Tryz.prog 238 #[.string (S l), .string ⟨#[32]⟩, .string ⟨#[]⟩] W fun e w' => e = .returned (.string (S (Lib.replaceAll l [32] []))) ∧ Below W.heap.size W w') := fun W h => rep_any m l 32 W h hl
  have hl2 : (Lib.replaceAll l [32] []).length ≤ 4194304 := Nat.le_trans (rep_len _ _) hl
  have h3 : ∀ W, MaxL m W → Hid (Calls Tryz.prog 238 #[.string (S (Lib.replaceAll l [32] [])), .string ⟨#[45]⟩, .string ⟨#[]⟩] W fun e w' => e = .returned (.string (S (Lib.replaceAll (Lib.replaceAll l [32] []) [45] []))) ∧ Below W.heap.size W w') := fun W h => rep_any m _ 45 W h hl2
  have h4 : ∀ W, Hid (Calls Tryz.prog 115 #[.string (S (Lib.replaceAll (Lib.replaceAll l [32] []) [45] []))] W fun e w' => e = .returned (.string (S (phN l))) ∧ Below W.heap.size W w') := fun W => by
    have := fold_any (S (Lib.replaceAll (Lib.replaceAll l [32] []) [45] [])) W (by rw [S_size]; have := rep_len (Lib.replaceAll l [32] []) [45]; unfold maxLen; omega)
    rw [S_l] at this
    exact this
  generalize phIn l = b at *
  generalize phN l = r at *
  generalize S (Lib.replaceAll (Lib.replaceAll l [32] []) [45] []) = R2 at *
  generalize S (Lib.replaceAll l [32] []) = R1 at *
  generalize S l = X at *
  obtain ⟨C, hC⟩ : ∃ C, prS = C := ⟨_, rfl⟩
  clear hM hl hl2 hC
  go_enter Tryz.func253, Tryz.ntmps253
  go_wp2_with fail
  refine (h1 _).out.mono ?_
  rintro e w1 ⟨rfl, hb1⟩
  have o1 : Hid (Below W.heap.size W w1) := hB.out.trans (hb1.mono hB.out.size)
  have m1 : Hid (MaxL m w1) := hM0.out.below hb1
  clear h1 hM0 hB hb1
  cases b
  · go_wp2_with fail
    go_ret2
    exact ⟨rfl, o1.out⟩
  · go_wp2_with fail
    refine (h2 w1 m1.out).out.mono ?_
    rintro e w2 ⟨rfl, hb2⟩
    have o2 : Hid (Below W.heap.size W w2) := o1.out.trans (hb2.mono o1.out.size)
    have m2 : Hid (MaxL m w2) := m1.out.below hb2
    clear hb2 h2 m1
    go_wp2_with fail
    refine (h3 w2 m2.out).out.mono ?_
    rintro e w3 ⟨rfl, hb3⟩
    have o3 : Hid (Below W.heap.size W w3) := o2.out.trans (hb3.mono o2.out.size)
    clear hb3 h3 m2
    go_wp2_with fail
    refine (h4 w3).out.mono ?_
    rintro e w4 ⟨rfl, hb4⟩
    have o4 : Hid (Below W.heap.size W w4) := o3.out.trans (hb4.mono o3.out.size)
    clear hb4 h4
    go_wp2_with fail
    go_ret2
    exact ⟨rfl, o4.out⟩
theorem synNu (w : World) : Calls Tryz.prog 21 #[.int .i64 5] w fun e w' => e = .returned (.iface 74 exX) ∧ w' = w := by
  go_enter Tryz.func21, Tryz.ntmps21
  go_wp2_with fail
  go_ret
  exact ⟨rfl, rfl⟩
set_option maxRecDepth 100000 in
theorem nuAt : SynAt 74 exX 235 := fun n W => by kernel_rfl
set_option maxRecDepth 100000 in
theorem nuWalked : WalkedAt 235 := fun args W => by kernel_rfl
def nuOk (l : List UInt8) : Bool := !l.isEmpty && nuIn l
set_option maxRecDepth 100000 in
set_option maxHeartbeats 1000000 in
theorem nuN_any (m : Int) (l : List UInt8) (hl : l.length ≤ 4194304) (W : World) (hM : MaxL m W) : NormAt exX 235 (S l) (nrmL (nuOk l) (Lib.replaceAll l [32] [])) (nuOk l) W := by
  have hB : Hid (Below W.heap.size W (W.alloc (.cells #[] 74))) := (Below.refl _ _).alloc (Nat.le_refl _) _
  have hM0 : MaxL m (W.alloc (.cells #[] 74)) := hM.below hB.out
  have hP : Hid (Calls Tryz.prog 236 #[exX, .string (S l), .int .i64 0] (W.alloc (.cells #[] 74)) fun e w' => e = .returned (.tuple #[.string (nrmL (nuIn l) (Lib.replaceAll l [32] [])), .bool (nuIn l)]) ∧ Below (W.alloc (.cells #[] 74)).heap.size (W.alloc (.cells #[] 74)) w') := nuP_any m l 0 hl _ hM0
  unfold nuOk
  cases l with
  | nil =>
    rw [show S [] = (⟨#[]⟩ : ByteArray) from rfl]
    clear hP hM0 hM
    show Calls _ _ _ _ _
    go_enter Tryz.func235, Tryz.ntmps235
    go_wp2_with fail
    go_ret2
    exact ⟨rfl, hB.out⟩
  | cons c l =>
    have hne : (S (c :: l)).toList.isEmpty = false := by rw [Lib.toList_data, S_l]; rfl
    have e : (!(c :: l).isEmpty && nuIn (c :: l)) = nuIn (c :: l) := rfl
    rw [e]
    generalize nuIn (c :: l) = b at *
    generalize nrmL b (Lib.replaceAll (c :: l) [32] []) = r at *
    generalize S (c :: l) = X at *
    clear hM0 hM hl e
    show Calls _ _ _ _ _
    go_enter Tryz.func235, Tryz.ntmps235
    go_wp2_with fail
    refine hP.out.mono ?_
    rintro e w1 ⟨rfl, hb1⟩
    have o1 : Hid (Below W.heap.size W w1) := hB.out.trans (hb1.mono hB.out.size)
    clear hP hb1 hB
    go_wp2_with fail
    go_ret2
    exact ⟨rfl, o1.out⟩
theorem synPh (w : World) : Calls Tryz.prog 21 #[.int .i64 6] w fun e w' => e = .returned (.iface 75 exX) ∧ w' = w := by
  go_enter Tryz.func21, Tryz.ntmps21
  go_wp2_with fail
  go_ret
  exact ⟨rfl, rfl⟩
set_option maxRecDepth 100000 in
theorem phAt : SynAt 75 exX 252 := fun n W => by kernel_rfl
set_option maxRecDepth 100000 in
theorem phWalked : WalkedAt 252 := fun args W => by kernel_rfl
def phOk (l : List UInt8) : Bool := !l.isEmpty && phIn l
set_option maxRecDepth 100000 in
set_option maxHeartbeats 1000000 in
theorem phN_any (m : Int) (l : List UInt8) (hl : l.length ≤ 4194304) (W : World) (hM : MaxL m W) : NormAt exX 252 (S l) (nrmL (phOk l) (phN l)) (phOk l) W := by
  have hB : Hid (Below W.heap.size W (W.alloc (.cells #[] 75))) := (Below.refl _ _).alloc (Nat.le_refl _) _
  have hM0 : MaxL m (W.alloc (.cells #[] 75)) := hM.below hB.out
  have hP : Hid (Calls Tryz.prog 253 #[exX, .string (S l), .int .i64 0] (W.alloc (.cells #[] 75)) fun e w' => e = .returned (.tuple #[.string (nrmL (phIn l) (phN l)), .bool (phIn l)]) ∧ Below (W.alloc (.cells #[] 75)).heap.size (W.alloc (.cells #[] 75)) w') := phP_any m l 0 hl _ hM0
  unfold phOk
  cases l with
  | nil =>
    rw [show S [] = (⟨#[]⟩ : ByteArray) from rfl]
    clear hP hM0 hM
    show Calls _ _ _ _ _
    go_enter Tryz.func252, Tryz.ntmps252
    go_wp2_with fail
    go_ret2
    exact ⟨rfl, hB.out⟩
  | cons c l =>
    have hne : (S (c :: l)).toList.isEmpty = false := by rw [Lib.toList_data, S_l]; rfl
    have e : (!(c :: l).isEmpty && phIn (c :: l)) = phIn (c :: l) := rfl
    rw [e]
    generalize phIn (c :: l) = b at *
    generalize nrmL b (phN (c :: l)) = r at *
    generalize S (c :: l) = X at *
    clear hM0 hM hl e
    show Calls _ _ _ _ _
    go_enter Tryz.func252, Tryz.ntmps252
    go_wp2_with fail
    refine hP.out.mono ?_
    rintro e w1 ⟨rfl, hb1⟩
    have o1 : Hid (Below W.heap.size W w1) := hB.out.trans (hb1.mono hB.out.size)
    clear hP hb1 hB
    go_wp2_with fail
    go_ret2
    exact ⟨rfl, o1.out⟩
end Go.Proofs.YtkecaeceeldcaaaGreatDoor
