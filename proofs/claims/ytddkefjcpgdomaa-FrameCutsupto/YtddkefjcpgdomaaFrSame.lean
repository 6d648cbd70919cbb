import Derived.Test.YtddkefjcpgdomaaFrOwn
namespace Go.Proofs.Ytddkefjcpgdomaa
open Go.RowKit
open FrMath (Hdr lb bd within Out ends cut Cut)

set_option maxHeartbeats 1000000 in
theorem same_some (l : List (List UInt8)) (B B' g g' cap cap' : Nat) (w : World) (hl : l.length ≤ 4194304) (h1 : OwnS w B (.slice (some ⟨g, 0, none⟩) l.length cap) l) (h2 : OwnS w B' (.slice (some ⟨g', 0, none⟩) l.length cap') l) :
    Calls Try.prog 15 #[.slice (some ⟨g, 0, none⟩) l.length cap, .slice (some ⟨g', 0, none⟩) l.length cap'] w fun r w' => r = .returned (.bool true) ∧ Below w.heap.size w w' := by
  go_enter Try.func15, Try.ntmps15
  go_wp2_with fail
  go_loopw [5] (fun iv wr => ∃ (k : Nat), k ≤ l.length ∧ iv = .int .i64 (k : Int) ∧ Hid (wr.heap = w.heap) ∧ Below w.heap.size w wr) (fun iv _ => l.length - (intOf iv).toNat)
  case atStart => exact ⟨0, Nat.zero_le _, rfl, rfl, Below.refl _ _⟩
  case round =>
    obtain ⟨k, hk, rfl, hh, HB⟩ := hrel
    by_cases hlt : k < l.length
    · have a0 := ownS_cell h1 k hlt
      have b0 := ownS_cell h2 k hlt
      have hE : ∀ a, wr.cell? a = w.cell? a := fun a => World.cell?_of_block (w := w) (by rw [hh.out])
      rw [← hE] at a0 b0
      have k0 : (0 : Int) ≤ (k : Int) := Int.natCast_nonneg _
      have k1 : (k : Int) < (l.length : Int) := Int.ofNat_lt.2 hlt
      generalize S l[k] = x at *
      clear hE
      go_wp2_with fail
      go_region
      all_goals
        go_wp2_with fail
        go_roundw
        case rel => exact ⟨k + 1, hlt, by simp, by exact hh, HB.drew⟩
        case measure => simp [intOf]; omega
    · have hke : k = l.length := by omega
      subst hke
      go_wp2_with fail
      go_ret
      exact ⟨rfl, HB⟩

theorem same_any (l : List (List UInt8)) (B B' : Nat) (v v' : Value) (w : World) (hl : l.length ≤ 4194304) (h1 : OwnS w B v l) (h2 : OwnS w B' v' l) :
    Calls Try.prog 15 #[v, v'] w fun r w' => r = .returned (.bool true) ∧ Below w.heap.size w w' := by
  have empty : ∀ (a a' : Option Addr) (c c' : Nat), Calls Try.prog 15 #[.slice a 0 c, .slice a' 0 c'] w fun r w' => r = .returned (.bool true) ∧ Below w.heap.size w w' := by
    intro a a' c c'
    go_enter Try.func15, Try.ntmps15
    go_wp2_with fail
    go_loopw [5] (fun iv wr => iv = .int .i64 0 ∧ w = wr) (fun _ _ => 0)
    case atStart => exact ⟨rfl, rfl⟩
    case round =>
      obtain ⟨rfl, rfl⟩ := hrel
      go_wp2_with fail
      go_ret
      exact ⟨rfl, Below.refl _ _⟩
  rcases ownS_form h1 with ⟨rfl, rfl⟩ | ⟨g, cap, rfl⟩
  · rcases ownS_form h2 with ⟨rfl, _⟩ | ⟨g', cap', rfl⟩
    · exact empty _ _ _ _
    · exact empty _ _ _ _
  · rcases ownS_form h2 with ⟨rfl, rfl⟩ | ⟨g', cap', rfl⟩
    · exact empty _ _ _ _
    · exact same_some l B B' g g' cap cap' w hl h1 h2

end Go.Proofs.Ytddkefjcpgdomaa
