import Derived.Test.YtohkmjaaigaemabMtRow
namespace Go.Proofs.Ytohkmjaaigaemab
open Go.RowKit
open FitM (St nxt refP)
set_option linter.unusedVariables false

/-- Does the piece stand there, as the reference asks it. -/
def stB (v : List UInt8) (k : Nat) (p : List UInt8) : Bool := decide (k + p.length ≤ v.length) && ((v.drop k).take p.length == p)
theorem stB_iff (v : List UInt8) (k : Nat) (p : List UInt8) : stB v k p = true ↔ St v k p := by
  unfold stB St
  rw [Bool.and_eq_true, decide_eq_true_iff, beq_iff_eq]
theorem ext_l (s : ByteArray) (a b : Nat) : (s.extract a b).data.toList = (s.data.toList.drop a).take (b - a) := by
  rw [ByteArray.data_extract, Array.toList_extract, List.extract_eq_take_drop]
set_option maxHeartbeats 400000 in
theorem stands_any (v p : ByteArray) (k : Nat) (w : World) (hv : v.size ≤ 4194304) (hp : p.size ≤ 4194304) (hk : k ≤ 8388608) :
    Calls Try.prog 13 #[.string v, .int .i64 (k : Int), .string p] w fun e w' => e = .returned (.bool (stB v.data.toList k p.data.toList)) ∧ w' = w := by
  have k0 : (0 : Int) ≤ (k : Int) := Int.natCast_nonneg _
  have hs : Hid (stB v.data.toList k p.data.toList = (decide (k + p.size ≤ v.size) && ((v.extract k (k + p.size)).toList == p.toList))) := by
    unfold Hid stB
    rw [Lib.toList_data, Lib.toList_data, ext_l, Nat.add_sub_cancel_left, size_l, size_l]
  by_cases h : k + p.size ≤ v.size
  · have h1 : (k : Int) + (p.size : Int) ≤ (v.size : Int) := by omega
    have h2 : (k : Int) ≤ (k : Int) + (p.size : Int) := by omega
    have hs2 : Hid (stB v.data.toList k p.data.toList = ((v.extract k (k + p.size)).toList == p.toList)) := by
      unfold Hid
      rw [hs.out, decide_eq_true h]
      rfl
    clear hs
    go_enter Try.func13, Try.ntmps13
    go_wp2_with fail
    go_ret
    exact ⟨by rw [hs2.out]; rfl, rfl⟩
  · have h1 : ¬ (k : Int) + (p.size : Int) ≤ (v.size : Int) := by omega
    have hs2 : Hid (stB v.data.toList k p.data.toList = false) := by
      unfold Hid
      rw [hs.out, decide_eq_false h]
      rfl
    clear hs
    go_enter Try.func13, Try.ntmps13
    go_wp2_with fail
    go_ret
    exact ⟨by rw [hs2.out]; rfl, rfl⟩
theorem stands_neg (v p : ByteArray) (k : Int) (w : World) (hk : k < 0) :
    Calls Try.prog 13 #[.string v, .int .i64 k, .string p] w fun e w' => e = .returned (.bool false) ∧ w' = w := by
  have h1 : ¬ (0 : Int) ≤ k := by omega
  go_enter Try.func13, Try.ntmps13
  go_wp2_with fail
  go_ret
  exact ⟨rfl, rfl⟩
end Go.Proofs.Ytohkmjaaigaemab
