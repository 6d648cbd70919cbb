import Derived.Test.YtilglidhlcmfbaaDoorBbUn2
namespace Go.Proofs.YtilglidhlcmfbaaDoor
open Go.RowKit
open TextMath (b64 unb)
set_option linter.unusedVariables false

set_option maxHeartbeats 1000000 in
theorem unbases_any (s : ByteArray) (w : World) (hm : s.size ≤ 4194304) (hW : WTab w) :
    Calls Tryd.prog 7 #[.string s] w fun e w' => e = .returned (.bool true) ∧ Below w.heap.size w w' := by
  have HB := Below.refl w.heap.size w
  cases hu : unb s.data.toList 0 with
  | ok t =>
    have U : Hid (ubV s.size (unb s.data.toList 0) = .tuple #[.string (S t), .int .i64 0, .int .i64 (s.size : Nat)]) := by unfold Hid; rw [hu]; rfl
    clear hu
    go_enter Tryd.func7, Tryd.ntmps7
    go_wp2_with (first
      | (go_at_call 11; refine (unbase64_any _ _ ?_ ?_).mono ?_; (omega); (exact hW.below HB); rintro e w1 ⟨rfl, hb1⟩; replace HB := HB.trans (hb1.mono HB.size); clear hb1; rw [U.out])
      | (go_at_call 12; refine (rUnbase64_any _ _ ?_).mono ?_; (omega); rintro e w1 ⟨rfl, hb1⟩; replace HB := HB.trans (hb1.mono HB.size); clear hb1; rw [U.out])
      | go_in)
    go_ret
    exact ⟨rfl, HB⟩
  | error p =>
    have U : Hid (ubV s.size (unb s.data.toList 0) = .tuple #[.string ⟨#[]⟩, .int .i64 12, .int .i64 (p : Nat)]) := by unfold Hid; rw [hu]; rfl
    clear hu
    go_enter Tryd.func7, Tryd.ntmps7
    go_wp2_with (first
      | (go_at_call 11; refine (unbase64_any _ _ ?_ ?_).mono ?_; (omega); (exact hW.below HB); rintro e w1 ⟨rfl, hb1⟩; replace HB := HB.trans (hb1.mono HB.size); clear hb1; rw [U.out])
      | (go_at_call 12; refine (rUnbase64_any _ _ ?_).mono ?_; (omega); rintro e w1 ⟨rfl, hb1⟩; replace HB := HB.trans (hb1.mono HB.size); clear hb1; rw [U.out])
      | go_in)
    go_ret
    exact ⟨rfl, HB⟩

set_option maxHeartbeats 1000000 in
theorem bases_walk (s : ByteArray) (w : World) (hs : s.size ≤ 1048576) (hA : AlTab w) (hW : WTab w) :
    Calls Tryd.prog 3 #[.string s] w fun e w' => e = .returned (.bool true) ∧ Below w.heap.size w w' := by
  have HB := Below.refl w.heap.size w
  have hz : (S (b64 s.data.toList)).size ≤ 4194304 := by rw [S_size, TextMath.b64_len, size_l]; omega
  go_enter Tryd.func3, Tryd.ntmps3
  go_wp2_with (first
      | (go_at_call 5; refine (base64_any _ _ ?_ ?_).mono ?_; (omega); (exact hA.below HB); rintro e w1 ⟨rfl, hb1⟩; replace HB := HB.trans (hb1.mono HB.size); clear hb1)
      | (go_at_call 6; refine (rBase64_any _ _ ?_).mono ?_; (omega); rintro e w1 ⟨rfl, hb1⟩; replace HB := HB.trans (hb1.mono HB.size); clear hb1)
      | (go_at_call 7; refine (unbases_any _ _ ?_ ?_).mono ?_; (omega); (exact hW.below HB); rintro e w1 ⟨rfl, hb1⟩; replace HB := HB.trans (hb1.mono HB.size); clear hb1))
  go_ret
  exact ⟨rfl, HB⟩
end Go.Proofs.YtilglidhlcmfbaaDoor
