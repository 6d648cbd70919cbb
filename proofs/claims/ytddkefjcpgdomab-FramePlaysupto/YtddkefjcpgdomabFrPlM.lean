import Derived.Test.YtddkefjcpgdomabFrRFeed
import Derived.Test.YtddkefjcpgdomabFrCutsM
import Derived.Test.YtddkefjcpgdomabFrm10
import Derived.Test.YtddkefjcpgdomabFrSame
namespace Go.Proofs.Ytddkefjcpgdomab
open Go.RowKit
open FrMath (Hdr lb bd within Out ends cut Cut)

theorem faultOk_any (fb : Nat) (lim : Int) (p : Nat) (v : Value) (h : Hdr) (w : World) (hC : Cells w fb (frL lim p v h)) (he : h.er = 0) :
    Calls Try.prog 13 #[.pointer (some ⟨fb, 0, none⟩)] w fun e w' => e = .returned (.tuple #[.int .i64 0, .int .i64 0]) ∧ Below w.heap.size w w' := by
  obtain ⟨⟨k0, k1, k2, k3, k4, k5⟩, _⟩ := cells6 hC
  simp only [he] at k5
  go_enter Try.func13, Try.ntmps13
  go_wp2_with fail
  go_ret2
  exact ⟨rfl, Below.refl _ _⟩

theorem fstHeld (fb : Nat) (lim : Int) (b : List UInt8) (v : Value) (w : World) (H : Nat) (s : FSt fb lim b v w H) :
    Calls Try.prog 11 #[.pointer (some ⟨fb, 0, none⟩)] w fun e w' => e = .returned (.int .i64 ((if (Cut lim b).er = 0 then b.length - (Cut lim b).at_ else 0 : Nat) : Int)) ∧ w = w' := by
  by_cases he : (Cut lim b).er = 0
  · rw [if_pos he]
    obtain ⟨hC, ho, _⟩ := s.ok he
    have := held_any fb lim _ v _ _ w hC ho
    rw [List.length_drop] at this
    exact this
  · rw [if_neg he]
    obtain ⟨hC, ho⟩ := s.bad he
    exact held_any fb lim _ v _ _ w hC ho
theorem fstNeed (fb : Nat) (lim : Int) (b : List UInt8) (v : Value) (w : World) (H : Nat) (s : FSt fb lim b v w H) (hb : b.length ≤ 4194304) :
    Calls Try.prog 12 #[.pointer (some ⟨fb, 0, none⟩)] w fun e w' => e = .returned (.int .i64 ((if (Cut lim b).er = 0 then needN lim (b.drop (Cut lim b).at_) else 0 : Nat) : Int)) ∧ Below w.heap.size w w' := by
  by_cases he : (Cut lim b).er = 0
  · rw [if_pos he]
    obtain ⟨hC, ho, _⟩ := s.ok he
    exact needM_any fb lim _ v _ _ w hC ho (by have := look_small lim (b.drop (Cut lim b).at_); omega) (by rw [List.length_drop]; omega)
  · rw [if_neg he]
    obtain ⟨hC, ho⟩ := s.bad he
    exact needM_any fb lim _ v _ _ w hC ho (by simp) (by simp)
theorem fstFault (fb : Nat) (lim : Int) (b : List UInt8) (v : Value) (w : World) (H : Nat) (s : FSt fb lim b v w H) :
    Calls Try.prog 13 #[.pointer (some ⟨fb, 0, none⟩)] w fun e w' => e = .returned (.tuple #[.int .i64 ((Cut lim b).er : Int), .int .i64 ((if (Cut lim b).er = 0 then 0 else (Cut lim b).at_ : Nat) : Int)]) ∧ Below w.heap.size w w' := by
  by_cases he : (Cut lim b).er = 0
  · rw [if_pos he, he]
    obtain ⟨hC, ho, hp⟩ := s.ok he
    exact faultOk_any fb lim _ v _ w hC hp.1
  · rw [if_neg he]
    obtain ⟨hC, ho⟩ := s.bad he
    refine (fault_any fb lim _ _ v w hC he).mono ?_
    rintro r w' ⟨rfl, n, rfl⟩
    exact ⟨rfl, below_drewN (Below.refl _ _) _⟩

theorem conv_row (w : World) (s : ByteArray) (hs : s.size ≤ 8388608) :
    ∃ W1 cap, (convert 9 30 (.string s)).run Try.prog w = .ok (.slice (some ⟨w.heap.size, 0, none⟩) s.size cap) W1 ∧ Below w.heap.size w W1 ∧ W1.heap.size = w.heap.size + 1 ∧ BRow W1 w.heap.size s.data.toList ∧ s.size ≤ cap ∧ cap ≤ 9223372036854775807 := by
  have hrun := run_bytes_of_string w 9 30 5 s Try.underlying9 Try.underlying30 Try.underlying5
  obtain ⟨W1, cap, h1, h2, h3, h4⟩ := conv_bytes (P := Try.prog) w 9 30 5 s Try.underlying9 Try.underlying30 Try.underlying5
  refine ⟨W1, cap, h1, h2, h3, h4, ?_, ?_⟩
  · rw [hrun] at h1
    injection h1 with h1 _
    injection h1 with _ _ h1
    rw [← h1]
    exact grownCap_ge w _ _ _
  · rw [hrun] at h1
    injection h1 with h1 _
    injection h1 with _ _ h1
    rw [← h1]
    have := grownCap_le_maxLen w s.size 0 5 (by unfold maxLen; omega)
    unfold maxLen at this
    omega

set_option maxHeartbeats 1000000 in
theorem same_at (l : List (List UInt8)) (B g g' k cap cap' : Nat) (w : World) (hl : l.length ≤ 4194304) (h1 : OwnS w B (.slice (some ⟨g, 0, none⟩) l.length cap) l) (h2 : ∀ j (hj : j < l.length), w.cell? ⟨g', k + j, none⟩ = some (.string (S l[j]))) :
    Calls Try.prog 15 #[.slice (some ⟨g, 0, none⟩) l.length cap, .slice (some ⟨g', k, none⟩) l.length cap'] w fun r w' => r = .returned (.bool true) ∧ Below w.heap.size w w' := by
  go_enter Try.func15, Try.ntmps15
  go_wp2_with fail
  go_loopw [5] (fun iv wr => ∃ (k : Nat), k ≤ l.length ∧ iv = .int .i64 (k : Int) ∧ Hid (wr.heap = w.heap) ∧ Below w.heap.size w wr) (fun iv _ => l.length - (intOf iv).toNat)
  case atStart => exact ⟨0, Nat.zero_le _, rfl, rfl, Below.refl _ _⟩
  case round =>
    obtain ⟨i, hk, rfl, hh, HB⟩ := hrel
    by_cases hlt : i < l.length
    · have a0 := ownS_cell h1 i hlt
      have b0 := h2 i hlt
      have hE : ∀ a, wr.cell? a = w.cell? a := fun a => World.cell?_of_block (w := w) (by rw [hh.out])
      rw [← hE] at a0 b0
      have k0 : (0 : Int) ≤ (i : Int) := Int.natCast_nonneg _
      have k1 : (i : Int) < (l.length : Int) := Int.ofNat_lt.2 hlt
      generalize S l[i] = x at *
      clear hE h2
      go_wp2_with fail
      go_region
      all_goals
        go_wp2_with fail
        go_roundw
        case rel => exact ⟨i + 1, hlt, by simp, by exact hh, HB.drew⟩
        case measure => simp [intOf]; omega
    · have hke : i = l.length := by omega
      subst hke
      go_wp2_with fail
      go_ret
      exact ⟨rfl, HB⟩
theorem same_none (w : World) (a a' : Option Addr) (c c' : Nat) : Calls Try.prog 15 #[.slice a 0 c, .slice a' 0 c'] w fun r w' => r = .returned (.bool true) ∧ Below w.heap.size w w' := by
  go_enter Try.func15, Try.ntmps15
  go_wp2_with fail
  go_loopw [5] (fun iv wr => iv = .int .i64 0 ∧ w = wr) (fun _ _ => 0)
  case atStart => exact ⟨rfl, rfl⟩
  case round =>
    obtain ⟨rfl, rfl⟩ := hrel
    go_wp2_with fail
    go_ret
    exact ⟨rfl, Below.refl _ _⟩
theorem same_part (l ms : List (List UInt8)) (k B B' : Nat) (v v' : Value) (w : World) (hl : l.length ≤ 4194304) (hd : ms.drop k = l) (h1 : OwnS w B v l) (h2 : PartS w B' v' k ms) :
    Calls Try.prog 15 #[v, v'] w fun r w' => r = .returned (.bool true) ∧ Below w.heap.size w w' := by
  obtain ⟨a, c, rfl, h2⟩ := h2
  have hn : ms.length - k = l.length := by rw [← hd, List.length_drop]
  rw [hn]
  rcases ownS_form h1 with ⟨rfl, rfl⟩ | ⟨g, cap, rfl⟩
  · exact same_none w _ _ _ _
  · rcases h2 with h2 | ⟨g', rfl, _, _, h2⟩
    · have h0 : l.length = 0 := by omega
      rw [h0]
      exact same_none w _ _ _ _
    · refine same_at l B g g' k cap c w hl h1 (fun j hj => ?_)
      rw [h2 (k + j) (by omega)]
      subst hd
      rw [List.getElem_drop]
end Go.Proofs.Ytddkefjcpgdomab
