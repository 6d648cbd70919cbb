import Derived.Test.YtjklnmddoiilgaaUeE
import Derived.Test.YtjklnmddoiilgaaUeV
namespace Go.Proofs.Ytjklnmddoiilgaa
open Go.RowKit
open EscMath
open TextMath (pre)

set_option maxRecDepth 100000 in
set_option maxHeartbeats 1000000 in
theorem urlEscape_walk (s t : ByteArray) (w : World) (hst : s.size + t.size ≤ 1048576) :
    Calls Try.prog 4 #[.string s, .string t] w fun e w' => e = .returned (.bool true) ∧ Below w.heap.size w w' := by
  have hs : Hid (s.size ≤ 4194304) := by unfold Hid; omega
  have ht : Hid (t.size ≤ 4194304) := by unfold Hid; omega
  clear hst
  obtain ⟨r, hr⟩ : ∃ r, une t.data.toList 0 = r := ⟨_, rfl⟩
  have h3 : Hid (∀ w, Calls Try.prog 6 #[.string t] w fun e w' => e = .returned (unV r) ∧ Below w.heap.size w w') := fun w => by rw [← hr]; exact unescape_any t w ht.out
  have h4 : Hid (∀ w, Calls Try.prog 9 #[.string t] w fun e w' => e = .returned (unV r) ∧ Below w.heap.size w w') := fun w => by rw [← hr]; exact rUnescape_any t w ht.out
  clear hr
  cases r with
  | ok o =>
    unfold unV at h3 h4
    go_enter Try.func4, Try.ntmps4
    go_wp2_with (first
      | (go_at_call 5; refine (escape_any s _ hs.out).mono ?_; rintro e w1 ⟨rfl, hb1⟩)
      | (go_at_call 8; refine (rEscape_any s _ hs.out).mono ?_; rintro e w2 ⟨rfl, hb2⟩)
      | (go_at_call 6; refine (h3.out _).mono ?_; rintro e w3 ⟨rfl, hb3⟩)
      | (go_at_call 9; refine (h4.out _).mono ?_; rintro e w4 ⟨rfl, hb4⟩))
    go_ret
    have e2 := hb1.trans (hb2.mono hb1.size)
    have e3 := e2.trans (hb3.mono e2.size)
    exact ⟨rfl, e3.trans (hb4.mono e3.size)⟩
  | error p =>
    unfold unV at h3 h4
    go_enter Try.func4, Try.ntmps4
    go_wp2_with (first
      | (go_at_call 5; refine (escape_any s _ hs.out).mono ?_; rintro e w1 ⟨rfl, hb1⟩)
      | (go_at_call 8; refine (rEscape_any s _ hs.out).mono ?_; rintro e w2 ⟨rfl, hb2⟩)
      | (go_at_call 6; refine (h3.out _).mono ?_; rintro e w3 ⟨rfl, hb3⟩)
      | (go_at_call 9; refine (h4.out _).mono ?_; rintro e w4 ⟨rfl, hb4⟩))
    go_ret
    have e2 := hb1.trans (hb2.mono hb1.size)
    have e3 := e2.trans (hb3.mono e2.size)
    exact ⟨rfl, e3.trans (hb4.mono e3.size)⟩
end Go.Proofs.Ytjklnmddoiilgaa
