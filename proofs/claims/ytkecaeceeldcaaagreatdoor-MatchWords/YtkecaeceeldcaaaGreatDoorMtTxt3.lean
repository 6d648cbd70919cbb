import Derived.Test.YtkecaeceeldcaaaGreatDoorMtTxt2
import Derived.Test.YtkecaeceeldcaaaGreatDoorMtEqW
import Derived.Test.YtkecaeceeldcaaaGreatDoorAtShelf
import Derived.Test.YtkecaeceeldcaaaGreatDoorBytes
import Derived.Shelf.Strings.SlTrimAscii
namespace Go.Proofs.YtkecaeceeldcaaaGreatDoor
open Go.RowKit
open TextMath (fold squeeze check)
set_option linter.unusedVariables false

theorem repK_len (old : List UInt8) : ∀ (k : Nat) (s : List UInt8), (Lib.replaceK old [] k s).length ≤ s.length
  | 0, s => by unfold Lib.replaceK; exact Nat.le_refl _
  | k + 1, s => by
    unfold Lib.replaceK
    split
    · exact Nat.le_refl _
    · have ih := repK_len old k (s.drop ((Lib.index s old).toNat + old.length))
      simp only [List.append_nil, List.length_append, List.length_take, List.length_drop] at ih ⊢
      omega
theorem rep_len (s old : List UInt8) : (Lib.replaceAll s old []).length ≤ s.length := by
  unfold Lib.replaceAll Lib.replace
  split
  · exact Nat.le_refl _
  · exact repK_len _ _ _
theorem rep_any (m : Int) (l : List UInt8) (c : UInt8) (w : World) (hM : MaxL m w) (hl : l.length ≤ 4194304) : Calls Tryz.prog 238 #[.string (S l), .string ⟨#[c]⟩, .string ⟨#[]⟩] w fun e w' => e = .returned (.string (S (Lib.replaceAll l [c] []))) ∧ Below w.heap.size w w' := by
  have h := Tryz.strings_ReplaceAll (S l) ⟨#[c]⟩ ⟨#[]⟩ m w (by rw [S_size]; omega) hM (by show 1 ≤ 1; omega) (by rw [S_size]; show l.length + _ * 0 ≤ _; omega)
  rw [S_l] at h
  exact h
/-- A text made of a set's bytes alone. -/
theorem madeOfG_any (cs : List UInt8) (C : ByteArray) (hT : ∀ (s : ByteArray) (w : World), Calls Tryz.prog 239 #[.string s, .string C] w fun e w' => e = .returned (.string (S (Lib.trimLeftS s.data.toList cs))) ∧ Below w.heap.size w w') (l : List UInt8) (w : World) : Calls Tryz.prog 237 #[.string (S l), .string C] w fun e w' => e = .returned (.bool (Lib.trimLeftS l cs).isEmpty) ∧ Below w.heap.size w w' := by
  have hT := hT (S l) w
  rw [S_l] at hT
  generalize Lib.trimLeftS l cs = m at *
  have hT' : Hid (Calls Tryz.prog 239 #[.string (S l), .string C] w fun e w' => e = .returned (.string (S m)) ∧ Below w.heap.size w w') := hT
  clear hT
  cases m with
  | nil =>
    go_enter Tryz.func237, Tryz.ntmps237
    go_wp2_with (go_at_call 239; refine hT'.out.mono ?_; rintro e w1 ⟨rfl, hb1⟩; rw [show S [] = (⟨#[]⟩ : ByteArray) from rfl])
    go_ret
    exact ⟨rfl, hb1⟩
  | cons c m =>
    have hne : (S (c :: m)).toList.isEmpty = false := by rw [Lib.toList_data, S_l]; rfl
    obtain ⟨T, hT⟩ : ∃ T, S (c :: m) = T := ⟨_, rfl⟩
    rw [hT] at hT' hne
    clear hT
    go_enter Tryz.func237, Tryz.ntmps237
    go_wp2_with (go_at_call 239; refine hT'.out.mono ?_; rintro e w1 ⟨rfl, hb1⟩)
    go_ret
    exact ⟨rfl, hb1⟩
abbrev nuS : ByteArray := ⟨#[48, 49, 50, 51, 52, 53, 54, 55, 56, 57, 32]⟩
abbrev nuL : List UInt8 := [48, 49, 50, 51, 52, 53, 54, 55, 56, 57, 32]
def nuIn (l : List UInt8) : Bool := (Lib.trimLeftS l nuL).isEmpty
theorem madeNu_any (l : List UInt8) (w : World) : Calls Tryz.prog 237 #[.string (S l), .string nuS] w fun e w' => e = .returned (.bool (nuIn l)) ∧ Below w.heap.size w w' :=
  madeOfG_any nuL nuS (fun s w => Any.strings_TrimLeft_laid Tryz.lays161 (by kernel_rfl) s nuS w (by decide) (ascii_of_all rfl)) l w
set_option maxRecDepth 100000 in
set_option maxHeartbeats 1000000 in
theorem nuP_any (m : Int) (l : List UInt8) (q : Int) (hl : l.length ≤ 4194304) (W : World) (hM : MaxL m W) : Calls Tryz.prog 236 #[exX, .string (S l), .int .i64 q] W fun e w' => e = .returned (.tuple #[.string (nrmL (nuIn l) (Lib.replaceAll l [32] [])), .bool (nuIn l)]) ∧ Below W.heap.size W w' := by
  have hB : Hid (Below W.heap.size W (W.alloc (.cells #[] 74))) := (Below.refl _ _).alloc (Nat.le_refl _) _
  have hM0 : Hid (MaxL m (W.alloc (.cells #[] 74))) := hM.below hB.out
  have h1 : ∀ W, Hid (Calls Tryz.prog 237 #[.string (S l), .string nuS] W fun e w' => e = .returned (.bool (nuIn l)) ∧ Below W.heap.size W w') := fun W => madeNu_any l W
  have h2 : ∀ W, MaxL m W → Hid (Calls Tryz.prog 238 #[.string (S l), .string ⟨#[32]⟩, .string ⟨#[]⟩] W fun e w' => e = .returned (.string (S (Lib.replaceAll l [32] []))) ∧ Below W.heap.size W w') := fun W h => rep_any m l 32 W h hl
  generalize nuIn l = b at *
  generalize Lib.replaceAll l [32] [] = r at *
  generalize S l = X at *
  clear hM hl
  go_enter Tryz.func236, Tryz.ntmps236
  go_wp2_with fail
  refine (h1 _).out.mono ?_
  rintro e w1 ⟨rfl, hb1⟩
  have o1 : Hid (Below W.heap.size W w1) := hB.out.trans (hb1.mono hB.out.size)
  have h2' := h2 w1 (hM0.out.below hb1)
  clear h1 h2 hM0 hB hb1
  cases b
  · go_wp2_with fail
    go_ret2
    exact ⟨rfl, o1.out⟩
  · go_wp2_with fail
    refine h2'.out.mono ?_
    rintro e w2 ⟨rfl, hb2⟩
    have o2 : Hid (Below W.heap.size W w2) := o1.out.trans (hb2.mono o1.out.size)
    clear hb2 h2'
    go_wp2_with fail
    go_ret2
    exact ⟨rfl, o2.out⟩
end Go.Proofs.YtkecaeceeldcaaaGreatDoor
