import Derived.Test.YtkecaeceeldcaaaGreatDoorMtBitN
namespace Go.Proofs.YtkecaeceeldcaaaGreatDoor
open Go.RowKit
set_option linter.unusedVariables false

abbrev dgs : List UInt8 := [48, 49, 50, 51, 52, 53, 54, 55, 56, 57]
abbrev dgS : ByteArray := ⟨#[48, 49, 50, 51, 52, 53, 54, 55, 56, 57]⟩
theorem trimD_any (s : ByteArray) (w : World) : Calls Tryz.prog 239 #[.string s, .string dgS] w fun e w' => e = .returned (.string (S (Lib.trimLeftS s.data.toList dgs))) ∧ Below w.heap.size w w' :=
  Any.strings_TrimLeft_laid Tryz.lays161 (by kernel_rfl) s dgS w (by decide) (ascii_of_all rfl)
theorem madeOfD_any (l : List UInt8) (w : World) : Calls Tryz.prog 237 #[.string (S l), .string dgS] w fun e w' => e = .returned (.bool (Lib.trimLeftS l dgs).isEmpty) ∧ Below w.heap.size w w' := by
  have hT := trimD_any (S l) w
  rw [S_l] at hT
  generalize Lib.trimLeftS l dgs = m at *
  have hT' : Hid (Calls Tryz.prog 239 #[.string (S l), .string dgS] w fun e w' => e = .returned (.string (S m)) ∧ Below w.heap.size w w') := hT
  clear hT
  cases m with
  | nil =>
    go_enter Tryz.func237, Tryz.ntmps237
    go_wp2_with (go_at_call 239; refine hT'.out.mono ?_; rintro e w1 ⟨rfl, hb1⟩; rw [show S [] = (⟨#[]⟩ : ByteArray) from rfl])
    go_ret
    exact ⟨rfl, hb1⟩
  | cons c m =>
    have hne : (S (c :: m)).toList.isEmpty = false := by rw [Lib.toList_data, S_l]; rfl
    obtain ⟨T, hT⟩ : ∃ T, S (c :: m) = T := ⟨_, rfl⟩
    rw [hT] at hT' hne
    clear hT
    go_enter Tryz.func237, Tryz.ntmps237
    go_wp2_with (go_at_call 239; refine hT'.out.mono ?_; rintro e w1 ⟨rfl, hb1⟩)
    go_ret
    exact ⟨rfl, hb1⟩
/-- 0, or digits without a 0 at their front. -/
def numOk (l : List UInt8) : Bool := l == [48] || (!l.isEmpty && (!(l.head? == some 48) && (Lib.trimLeftS l dgs).isEmpty))
theorem isNumber_any (l : List UInt8) (w : World) : Calls Tryz.prog 261 #[.string (S l)] w fun e w' => e = .returned (.bool (numOk l)) ∧ Below w.heap.size w w' := by
  by_cases h0 : l = [48]
  · subst h0
    rw [show S [48] = (⟨#[48]⟩ : ByteArray) from rfl]
    go_enter Tryz.func261, Tryz.ntmps261
    go_wp2_with fail
    go_ret
    exact ⟨rfl, Below.refl _ _⟩
  · cases l with
    | nil =>
      rw [show S [] = (⟨#[]⟩ : ByteArray) from rfl]
      go_enter Tryz.func261, Tryz.ntmps261
      go_wp2_with fail
      go_ret
      exact ⟨rfl, Below.refl _ _⟩
    | cons c m =>
      have hM : Hid (Calls Tryz.prog 237 #[.string (S (c :: m)), .string dgS] w fun e w' => e = .returned (.bool (Lib.trimLeftS (c :: m) dgs).isEmpty) ∧ Below w.heap.size w w') := madeOfD_any _ w
      have hq : ((S (c :: m)).toList == ([48] : List UInt8)) = false := by rw [Lib.toList_data, S_l]; simpa using h0
      have hne : (S (c :: m)).toList.isEmpty = false := by rw [Lib.toList_data, S_l]; rfl
      have hsz : 0 < (S (c :: m)).size := by rw [S_size]; simp
      have hg : (S (c :: m))[0]'hsz = c := by rfl
      obtain ⟨T, hT⟩ : ∃ T, S (c :: m) = T := ⟨_, rfl⟩
      have ek : ((((c.toNat : Nat) : Int) != 48) = true) ↔ ¬ c = 48 := by
        rw [bne_iff_ne, ne_eq]
        refine not_congr ⟨fun h => UInt8.toNat_inj.1 (by rw [show (48 : UInt8).toNat = 48 from rfl]; omega), fun h => by rw [h]; rfl⟩
      have hb : ((((S (c :: m))[0]'hsz).toNat : Int) != 48) = !(c == 48) := by
        rw [hg, Bool.eq_iff_iff, ek]; simp
      have en : numOk (c :: m) = (!(c == 48) && (Lib.trimLeftS (c :: m) dgs).isEmpty) := by
        unfold numOk
        have : ((c :: m) == [48]) = false := by simpa using h0
        rw [this]
        rfl
      rw [en]
      generalize (!(c == 48)) = bc at *
      generalize (Lib.trimLeftS (c :: m) dgs).isEmpty = bt at *
      have hM' := hM
      clear hM
      revert hsz
      rw [hT] at hM' hq hne ⊢
      intro hsz hg hb
      clear hT h0 ek en hg
      cases bc
      · go_enter Tryz.func261, Tryz.ntmps261
        go_wp2_with fail
        go_ret
        exact ⟨rfl, Below.refl _ _⟩
      · go_enter Tryz.func261, Tryz.ntmps261
        go_wp2_with (go_at_call 237; refine hM'.out.mono ?_; rintro e w1 ⟨rfl, hb1⟩)
        go_ret
        exact ⟨rfl, hb1⟩
/-- A whole number, in decimal. -/
def intOk (l : List UInt8) : Bool := numOk (Lib.trimPrefix l [45]) && !(Lib.hasPrefix l [45] && Lib.trimPrefix l [45] == [48])
theorem isInteger_any (v : ByteArray) (w : World) : Calls Tryz.prog 258 #[.string v] w fun e w' => e = .returned (.bool (intOk v.data.toList)) ∧ Below w.heap.size w w' := by
  obtain ⟨l, hl⟩ : ∃ l, v.data.toList = l := ⟨_, rfl⟩
  rw [hl]
  have h1 : Hid (Calls Tryz.prog 39 #[.string v, .string ⟨#[45]⟩] w fun e w' => e = .returned (.tuple #[.string (S (Lib.trimPrefix l [45])), .bool (Lib.hasPrefix l [45])]) ∧ w' = w) := by
    have := Tryz.strings_CutPrefix v ⟨#[45]⟩ w
    rw [hl] at this
    exact this
  have h2 : Hid (Calls Tryz.prog 261 #[.string (S (Lib.trimPrefix l [45]))] w fun e w' => e = .returned (.bool (numOk (Lib.trimPrefix l [45]))) ∧ Below w.heap.size w w') := isNumber_any _ w
  have hq : ((S (Lib.trimPrefix l [45])).toList == ([48] : List UInt8)) = (Lib.trimPrefix l [45] == [48]) := by rw [Lib.toList_data, S_l]
  unfold intOk
  generalize numOk (Lib.trimPrefix l [45]) = b1 at *
  generalize S (Lib.trimPrefix l [45]) = R at *
  generalize (Lib.trimPrefix l [45] == [48]) = b2 at *
  generalize Lib.hasPrefix l [45] = b3 at *
  clear hl
  cases b1 <;> cases b3 <;> cases b2
  all_goals
    go_enter Tryz.func258, Tryz.ntmps258
    go_wp2_with (first | (go_at_call 39; refine h1.out.mono ?_; rintro e w' ⟨rfl, rfl⟩) | (go_at_call 261; refine h2.out.mono ?_; rintro e w1 ⟨rfl, hb1⟩))
    go_ret
    exact ⟨rfl, hb1⟩
/-- The syntax of whole numbers, as an interface value's own. -/
abbrev intX : Value := .agg #[]
theorem synInt (w : World) : Calls Tryz.prog 21 #[.int .i64 7] w fun e w' => e = .returned (.iface 78 intX) ∧ w' = w := by
  go_enter Tryz.func21, Tryz.ntmps21
  go_wp2_with fail
  go_ret
  exact ⟨rfl, rfl⟩
set_option maxRecDepth 100000 in
theorem intAt : SynAt 78 intX 256 := fun n W => by kernel_rfl
set_option maxRecDepth 100000 in
theorem intWalked : WalkedAt 256 := fun args W => by kernel_rfl
set_option maxRecDepth 100000 in
set_option maxHeartbeats 1000000 in
theorem intN_any (v : ByteArray) : NormIs intX 256 v (nrm (intOk v.data.toList) v) (intOk v.data.toList) := fun W => by
  have h1 : ∀ W, Hid (Calls Tryz.prog 258 #[.string v] W fun e w' => e = .returned (.bool (intOk v.data.toList)) ∧ Below W.heap.size W w') := fun W => isInteger_any v W
  have h4 : ∀ b W, Hid (Calls Tryz.prog 260 #[.string v, .bool b] W fun e w' => e = .returned (.tuple #[.string (nrm b v), .bool b]) ∧ w' = W) := fun b W => itself_any v b W
  generalize intOk v.data.toList = b at *
  have hB : Hid (Below W.heap.size W (W.alloc (.cells #[] 78))) := (Below.refl _ _).alloc (Nat.le_refl _) _
  have h4' := h4 b
  clear h4
  go_enter Tryz.func256, Tryz.ntmps256
  go_wp2_with (first | (go_at_call 258; refine (h1 _).out.mono ?_; rintro e w3 ⟨rfl, hb3⟩) | (go_at_call 260; refine (h4' _).out.mono ?_; rintro e w' ⟨rfl, rfl⟩))
  go_ret2
  exact ⟨rfl, hB.out.trans (hb3.mono hB.out.size)⟩
end Go.Proofs.YtkecaeceeldcaaaGreatDoor
