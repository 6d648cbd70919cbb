import Derived.Test.YtkecaeceeldcaaaGreatDoorMtBits
import Derived.Test.YtkecaeceeldcaaaGreatDoorMtBitM
import Derived.Shelf.Strings.SlTrimAscii
namespace Go.Proofs.YtkecaeceeldcaaaGreatDoor
open Go.RowKit
set_option linter.unusedVariables false

theorem trim01_any (s : ByteArray) (w : World) : Calls Tryz.prog 239 #[.string s, .string ⟨#[48, 49]⟩] w fun e w' => e = .returned (.string (S (Lib.trimLeftS s.data.toList [48, 49]))) ∧ Below w.heap.size w w' :=
  Any.strings_TrimLeft_laid Tryz.lays161 (by kernel_rfl) s ⟨#[48, 49]⟩ w (by decide) (ascii_of_all rfl)
theorem madeOf_any (l : List UInt8) (w : World) : Calls Tryz.prog 237 #[.string (S l), .string ⟨#[48, 49]⟩] w fun e w' => e = .returned (.bool (Lib.trimLeftS l [48, 49]).isEmpty) ∧ Below w.heap.size w w' := by
  have hT := trim01_any (S l) w
  rw [S_l] at hT
  generalize Lib.trimLeftS l [48, 49] = m at *
  have hT' : Hid (Calls Tryz.prog 239 #[.string (S l), .string ⟨#[48, 49]⟩] w fun e w' => e = .returned (.string (S m)) ∧ Below w.heap.size w w') := hT
  clear hT
  cases m with
  | nil =>
    go_enter Tryz.func237, Tryz.ntmps237
    go_wp2_with (go_at_call 239; refine hT'.out.mono ?_; rintro e w1 ⟨rfl, hb1⟩; rw [show S [] = (⟨#[]⟩ : ByteArray) from rfl])
    go_ret
    exact ⟨rfl, hb1⟩
  | cons c m =>
    have hne : (S (c :: m)).toList.isEmpty = false := by rw [Lib.toList_data, S_l]; rfl
    obtain ⟨T, hT⟩ : ∃ T, S (c :: m) = T := ⟨_, rfl⟩
    rw [hT] at hT' hne
    clear hT
    go_enter Tryz.func237, Tryz.ntmps237
    go_wp2_with (go_at_call 239; refine hT'.out.mono ?_; rintro e w1 ⟨rfl, hb1⟩)
    go_ret
    exact ⟨rfl, hb1⟩
theorem itself_any (v : ByteArray) (b : Bool) (w : World) : Calls Tryz.prog 260 #[.string v, .bool b] w fun e w' => e = .returned (.tuple #[.string (if b then v else ⟨#[]⟩), .bool b]) ∧ w' = w := by
  cases b
  · go_enter Tryz.func260, Tryz.ntmps260
    go_wp2_with fail
    go_ret2
    exact ⟨rfl, rfl⟩
  · go_enter Tryz.func260, Tryz.ntmps260
    go_wp2_with fail
    go_ret2
    exact ⟨rfl, rfl⟩
/-- A text's normal form, told by whether it is of the syntax. -/
def nrm (b : Bool) (v : ByteArray) : ByteArray := if b then v else ⟨#[]⟩

set_option maxRecDepth 100000 in
set_option maxHeartbeats 1000000 in
theorem bitsN_any (v : ByteArray) (hv : v.size ≤ 1099511627776) : NormIs bitsX 304 v (nrm (MtBitM.ok v.data.toList) v) (MtBitM.ok v.data.toList) := fun W => by
  obtain ⟨l, hl⟩ : ∃ l, v.data.toList = l := ⟨_, rfl⟩
  rw [hl]
  have h1 : ∀ W, Hid (Calls Tryz.prog 39 #[.string v, .string ⟨#[39]⟩] W fun e w' => e = .returned (.tuple #[.string (S (Lib.trimPrefix l [39])), .bool (Lib.hasPrefix l [39])]) ∧ w' = W) := fun W => by
    have := Tryz.strings_CutPrefix v ⟨#[39]⟩ W
    rw [hl] at this
    exact this
  have hlen : (S (Lib.trimPrefix l [39])).size ≤ 9223372036854775807 := by
    rw [S_size]
    have hs := size_l v
    rw [hl] at hs
    unfold Lib.trimPrefix
    split
    · rw [List.length_drop]; omega
    · omega
  have h2 : ∀ W, Hid (Calls Tryz.prog 40 #[.string (S (Lib.trimPrefix l [39])), .string ⟨#[39, 66]⟩] W fun e w' => e = .returned (.tuple #[.string (S (Lib.trimSuffix (Lib.trimPrefix l [39]) [39, 66])), .bool (Lib.hasSuffix (Lib.trimPrefix l [39]) [39, 66])]) ∧ w' = W) := fun W => by
    have := Tryz.strings_CutSuffix (S (Lib.trimPrefix l [39])) ⟨#[39, 66]⟩ W hlen
    rw [S_l] at this
    exact this
  have h3 : ∀ W, Hid (Calls Tryz.prog 237 #[.string (S (Lib.trimSuffix (Lib.trimPrefix l [39]) [39, 66])), .string ⟨#[48, 49]⟩] W fun e w' => e = .returned (.bool (Lib.trimLeftS (Lib.trimSuffix (Lib.trimPrefix l [39]) [39, 66]) [48, 49]).isEmpty) ∧ Below W.heap.size W w') := fun W => madeOf_any _ W
  have h4 : ∀ b W, Hid (Calls Tryz.prog 260 #[.string v, .bool b] W fun e w' => e = .returned (.tuple #[.string (nrm b v), .bool b]) ∧ w' = W) := fun b W => itself_any v b W
  unfold MtBitM.ok
  generalize S (Lib.trimSuffix (Lib.trimPrefix l [39]) [39, 66]) = R2 at *
  generalize S (Lib.trimPrefix l [39]) = R1 at *
  generalize (Lib.trimLeftS (Lib.trimSuffix (Lib.trimPrefix l [39]) [39, 66]) [48, 49]).isEmpty = b3 at *
  generalize Lib.hasSuffix (Lib.trimPrefix l [39]) [39, 66] = b2 at *
  generalize Lib.hasPrefix l [39] = b1 at *
  have hB : Hid (Below W.heap.size W (W.alloc (.cells #[] 89))) := (Below.refl _ _).alloc (Nat.le_refl _) _
  clear hlen hl hv
  cases b1
  · have h4' := h4 false
    clear h4
    go_enter Tryz.func304, Tryz.ntmps304
    go_wp2_with (first | (go_at_call 39; refine (h1 _).out.mono ?_; rintro e w' ⟨rfl, rfl⟩) | (go_at_call 40; refine (h2 _).out.mono ?_; rintro e w' ⟨rfl, rfl⟩) | (go_at_call 260; refine (h4' _).out.mono ?_; rintro e w' ⟨rfl, rfl⟩))
    go_ret2
    exact ⟨rfl, hB.out⟩
  · cases b2
    · have h4' := h4 false
      clear h4
      go_enter Tryz.func304, Tryz.ntmps304
      go_wp2_with (first | (go_at_call 39; refine (h1 _).out.mono ?_; rintro e w' ⟨rfl, rfl⟩) | (go_at_call 40; refine (h2 _).out.mono ?_; rintro e w' ⟨rfl, rfl⟩) | (go_at_call 260; refine (h4' _).out.mono ?_; rintro e w' ⟨rfl, rfl⟩))
      go_ret2
      exact ⟨rfl, hB.out⟩
    · have h4' := h4 b3
      clear h4
      go_enter Tryz.func304, Tryz.ntmps304
      go_wp2_with (first | (go_at_call 39; refine (h1 _).out.mono ?_; rintro e w' ⟨rfl, rfl⟩) | (go_at_call 40; refine (h2 _).out.mono ?_; rintro e w' ⟨rfl, rfl⟩) | (go_at_call 237; refine (h3 _).out.mono ?_; rintro e w3 ⟨rfl, hb3⟩) | (go_at_call 260; refine (h4' _).out.mono ?_; rintro e w' ⟨rfl, rfl⟩))
      go_ret2
      exact ⟨rfl, hB.out.trans (hb3.mono hB.out.size)⟩
end Go.Proofs.YtkecaeceeldcaaaGreatDoor
