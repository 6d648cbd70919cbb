import Derived.Test.YtcngdlaaadijpaaLdRRef
namespace Go.Proofs.Ytcngdlaaadijpaa
open Go.RowKit
open LdMath

set_option maxRecDepth 100000 in
set_option maxHeartbeats 1000000 in
theorem ldifRefolds_walk (s : ByteArray) (d : Int) (hs : s.size ≤ 1048576) (hd : d ≤ 9223372036854775807) (w : World) : Calls Try.prog 4 #[.string s, .int .i64 d] w fun e w' => e = .returned (.bool true) ∧ Below w.heap.size w w' := by
  have h1 := fun W => refold_any s hs d hd W
  have h2 := fun W => rrefold_any s hs d hd W
  generalize S (rfT (phys s.data.toList) d) = T at *
  generalize ((rfE (phys s.data.toList) d).1 : Int) = x at *
  generalize ((rfE (phys s.data.toList) d).2 : Int) = y at *
  have h1' : ∀ W, Hid (Calls Try.prog 8 #[.string s, .int .i64 d] W fun e w' => e = .returned (.tuple #[.string T, .int .i64 x, .int .i64 y]) ∧ Below W.heap.size W w') := h1
  have h2' : ∀ W, Hid (Calls Try.prog 9 #[.string s, .int .i64 d] W fun e w' => e = .returned (.tuple #[.string T, .int .i64 x, .int .i64 y]) ∧ Below W.heap.size W w') := h2
  clear h1 h2 hs hd
  go_enter Try.func4, Try.ntmps4
  go_wp2_with (first | (go_at_call 8; refine (h1' _).out.mono ?_; rintro e w1 ⟨rfl, hb1⟩) | (go_at_call 9; refine (h2' _).out.mono ?_; rintro e w2 ⟨rfl, hb2⟩) | (go_at_call 7; refine (num_any _ _).mono ?_; rintro e w3 ⟨rfl, rfl⟩))
  go_ret
  refine ⟨by first | rfl | simp, ?_⟩
  exact hb1.trans (hb2.mono hb1.size)
end Go.Proofs.Ytcngdlaaadijpaa
