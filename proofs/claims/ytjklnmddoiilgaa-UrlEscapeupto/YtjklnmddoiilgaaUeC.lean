import Derived.Test.YtjklnmddoiilgaaUeB
import Derived.Lib.Bytealg
namespace Go.Proofs.Ytjklnmddoiilgaa
open Go.RowKit
open EscMath
open TextMath (wo)

theorem index_has (l : List UInt8) (c : UInt8) : (l.contains c = true ∧ 0 ≤ Lib.indexByte l c) ∨ (l.contains c = false ∧ Lib.indexByte l c = -1) := by
  induction l with
  | nil => right; exact ⟨rfl, rfl⟩
  | cons b l ih =>
    unfold Lib.indexByte
    by_cases h : b = c
    · subst h; left; simp
    · have h1 : (b == c) = false := by simpa using h
      have h2 : (c == b) = false := by simpa using fun e => h e.symm
      rw [List.contains_cons, h1, h2]
      rcases ih with ⟨i1, i2⟩ | ⟨i1, i2⟩
      · left
        refine ⟨by rw [i1]; rfl, ?_⟩
        have h3 : (Lib.indexByte l c == -1) = false := by simp; omega
        simp [h3]; omega
      · right
        refine ⟨by rw [i1]; rfl, ?_⟩
        simp [i2]
/-- The signs as the program's constant. -/
def sgS : ByteArray := { data := #[45, 46, 95, 126, 33, 36, 38, 39, 40, 41, 42, 43, 59, 61, 58, 64, 47] }
theorem index1_any (b : UInt8) (w : World) : Calls Try.prog 25 #[.string sgS, .int .u8 (b.toNat : Int)] w fun e w' => e = .returned (.int .i64 (Lib.indexByte sg b)) ∧ w = w' := by
  have hx : (Extern.BytealgIndexByte.indexByte #[.string sgS, .int .u8 (b.toNat : Int)]).run Try.prog w = .ok (.int .i64 (Lib.indexByte sg b)) w := by
    rw [Lib.run_indexByteString]
    have : ((b.toNat : Int)).toNat.toUInt8 = b := by simp
    rw [this]; rfl
  go_enter Try.func25, Try.ntmps25
  go_wp2
  rw [run_callFunc_extern Try.func30 (by kernel_rfl) (by kernel_rfl) (by kernel_rfl) (e := Extern.BytealgIndexByte.indexByte) (by kernel_rfl)]
  rw [hx]
  simp only [Result.andThen]
  rw [Oper.upon_value]
  go_wp2
  go_ret
  exact ⟨rfl, rfl⟩
theorem index_any (b : UInt8) (w : World) : Calls Try.prog 20 #[.string sgS, .int .u8 (b.toNat : Int)] w fun e w' => e = .returned (.int .i64 (Lib.indexByte sg b)) ∧ w = w' := by
  go_enter Try.func20, Try.ntmps20
  go_wp2_with (go_at_call 25; refine (index1_any b _).mono ?_; rintro e w' ⟨rfl, rfl⟩)
  go_ret
  exact ⟨rfl, rfl⟩
theorem uQuiet_any (b : UInt8) (w : World) : Calls Try.prog 10 #[.int .u8 (b.toNat : Int)] w fun e w' => e = .returned (.bool (qt b)) ∧ w = w' := by
  have hsg : Hid (sgS = { data := #[45, 46, 95, 126, 33, 36, 38, 39, 40, 41, 42, 43, 59, 61, 58, 64, 47] }) := rfl
  have h1 : Hid (Calls Try.prog 18 #[.int .u8 (b.toNat : Int)] w fun e w' => e = .returned (.bool (lt b.toNat)) ∧ w = w') := uLetter_any b w
  have h2 : Hid (Calls Try.prog 19 #[.int .u8 (b.toNat : Int)] w fun e w' => e = .returned (.bool (di b.toNat)) ∧ w = w') := uDigit_any b w
  have h3 : Hid (Calls Try.prog 20 #[.string { data := #[45, 46, 95, 126, 33, 36, 38, 39, 40, 41, 42, 43, 59, 61, 58, 64, 47] }, .int .u8 (b.toNat : Int)] w fun e w' => e = .returned (.int .i64 (Lib.indexByte sg b)) ∧ w = w') := index_any b w
  have h4 := index_has sg b
  unfold qt
  generalize sg.contains b = z at *
  generalize Lib.indexByte sg b = i at *
  generalize lt b.toNat = x at *
  generalize di b.toNat = y at *
  cases x with
  | true =>
    clear h4
    go_enter Try.func10, Try.ntmps10
    go_wp2_with fail
    refine h1.out.mono ?_
    rintro e W1 ⟨rfl, rfl⟩
    go_wp2_with fail
    go_ret
    exact ⟨rfl, rfl⟩
  | false =>
    cases y with
    | true =>
      clear h4
      go_enter Try.func10, Try.ntmps10
      go_wp2_with fail
      refine h1.out.mono ?_
      rintro e W1 ⟨rfl, rfl⟩
      go_wp2_with fail
      refine h2.out.mono ?_
      rintro e W1 ⟨rfl, rfl⟩
      go_wp2_with fail
      go_ret
      exact ⟨rfl, rfl⟩
    | false =>
      have h5 : decide ((0 : Int) ≤ i) = z := by
        rcases h4 with ⟨rfl, h⟩ | ⟨rfl, rfl⟩
        · exact decide_eq_true h
        · rfl
      clear h4
      go_enter Try.func10, Try.ntmps10
      go_wp2_with fail
      refine h1.out.mono ?_
      rintro e W1 ⟨rfl, rfl⟩
      go_wp2_with fail
      refine h2.out.mono ?_
      rintro e W1 ⟨rfl, rfl⟩
      go_wp2_with fail
      refine h3.out.mono ?_
      rintro e W1 ⟨rfl, rfl⟩
      go_wp2_with fail
      go_ret
      exact ⟨by first | exact ret_bool (by rw [← h5]; simp) | (cases z <;> simp_all), rfl⟩
end Go.Proofs.Ytjklnmddoiilgaa
