import Derived.Test.YtddkefjcpgdomaaFrMark2
import Derived.Test.YtddkefjcpgdomaaFrSame
import Derived.Laws.Rows
namespace Go.Proofs.Ytddkefjcpgdomaa
open Go.RowKit

/-- A text written into a row of texts of the call's own. -/
theorem ownS_set {w : World} {B g n cap : Nat} {l : List (List UInt8)} (h : OwnS w B (.slice (some ⟨g, 0, none⟩) n cap) l) (i : Nat) (x : List UInt8) : OwnS (w.setCell ⟨g, i, none⟩ (.string (S x))) B (.slice (some ⟨g, 0, none⟩) n cap) (l.set i x) := by
  rcases h with ⟨_, ⟨h2, _⟩ | ⟨g', cap', cur, h2, h3, h4, h5, h6, h7, h8⟩⟩
  · injection h2 with h2
    cases h2
  · injection h2 with ha hn hc
    injection ha with ha
    injection ha with ha
    subst ha hn hc
    refine ⟨by simp [sv], Or.inr ⟨g, cap, _, by rw [List.length_set], h3, Go.heap_setCell_same _ _ _ _ _ _ h4, by rw [List.length_set]; exact h5, h6, by rw [Array.size_setIfInBounds]; exact h7, ?_⟩⟩
    have e : sv (l.set i x) = (sv l).set i (.string (S x)) := by simp [sv, List.map_set]
    rw [e, ← h8, List.length_set]
    simp [List.take_set]
theorem ownS_free {w : World} {B g n cap : Nat} {l : List (List UInt8)} (h : OwnS w B (.slice (some ⟨g, 0, none⟩) n cap) l) (i : Nat) : w.frozen? ⟨g, i, none⟩ = false := by
  rcases h with ⟨_, ⟨h2, _⟩ | ⟨g', cap', cur, h2, _, h4, _⟩⟩
  · injection h2 with h2
    cases h2
  · injection h2 with ha hn hc
    injection ha with ha
    injection ha with ha
    subst ha
    exact Go.frozen_of_row _ _ _ _ _ h4

set_option maxHeartbeats 1000000 in
/-- 'same' of two rows alike only draws. -/
theorem same_drew (l : List (List UInt8)) (B B' g g' cap cap' : Nat) (w : World) (hl : l.length ≤ 4194304) (h1 : OwnS w B (.slice (some ⟨g, 0, none⟩) l.length cap) l) (h2 : OwnS w B' (.slice (some ⟨g', 0, none⟩) l.length cap') l) :
    Calls Try.prog 15 #[.slice (some ⟨g, 0, none⟩) l.length cap, .slice (some ⟨g', 0, none⟩) l.length cap'] w fun r w' => r = .returned (.bool true) ∧ ∃ n, w' = w.drewN n := by
  go_enter Try.func15, Try.ntmps15
  go_wp2_with fail
  go_loopw [5] (fun iv wr => ∃ (k n : Nat), k ≤ l.length ∧ iv = .int .i64 (k : Int) ∧ Hid (wr = w.drewN n)) (fun iv _ => l.length - (intOf iv).toNat)
  case atStart => exact ⟨0, 0, Nat.zero_le _, rfl, rfl⟩
  case round =>
    obtain ⟨k, n, hk, rfl, hw⟩ := hrel
    by_cases hlt : k < l.length
    · have a0 := ownS_cell h1 k hlt
      have b0 := ownS_cell h2 k hlt
      have hE : ∀ a, wr.cell? a = w.cell? a := fun a => by rw [hw.out]; rfl
      rw [← hE] at a0 b0
      have k0 : (0 : Int) ≤ (k : Int) := Int.natCast_nonneg _
      have k1 : (k : Int) < (l.length : Int) := Int.ofNat_lt.2 hlt
      generalize S l[k] = x at *
      clear hE
      go_wp2_with fail
      go_quiet (fail)
      go_wp2_with fail
      go_roundw
      case rel => exact ⟨k + 1, _, hlt, by simp, by unfold Hid; rw [hw.out, World.drewN_drewN]⟩
      case measure => simp [intOf]; omega
    · have hke : k = l.length := by omega
      subst hke
      go_wp2_with fail
      go_ret
      exact ⟨rfl, n, hw.out⟩
end Go.Proofs.Ytddkefjcpgdomaa
