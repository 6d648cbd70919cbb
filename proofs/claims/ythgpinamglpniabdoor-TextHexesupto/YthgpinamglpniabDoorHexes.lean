import Derived.Test.YthgpinamglpniabDoorRefUnhex
namespace Go.Proofs.YthgpinamglpniabDoor
open Go.RowKit
open TextMath (hex)

set_option maxHeartbeats 1000000 in
theorem hexes_walk (s : ByteArray) (w : World) (hs : s.size ≤ 1048576) (ht : HexTab w) :
    Calls Tryd.prog 5 #[.string s] w fun e w' => e = .returned (.bool true) ∧ Below w.heap.size w w' := by
  have HB := Below.refl w.heap.size w
  have hz : (S (hex s.data.toList)).size ≤ 4194304 := by rw [S_size, TextMath.hex_len, size_l]; omega
  go_enter Tryd.func5, Tryd.ntmps5
  go_wp2_with (first
      | (go_at_call 12; refine (hex_any _ _ ?_ ?_).mono ?_; (omega); (exact ht.below HB); rintro e w1 ⟨rfl, hb1⟩; replace HB := HB.trans (hb1.mono HB.size); clear hb1)
      | (go_at_call 13; refine (rHex_any _ _ ?_).mono ?_; (omega); rintro e w1 ⟨rfl, hb1⟩; replace HB := HB.trans (hb1.mono HB.size); clear hb1)
      | (go_at_call 14; refine (unhexes_any _ _ ?_).mono ?_; (omega); rintro e w1 ⟨rfl, hb1⟩; replace HB := HB.trans (hb1.mono HB.size); clear hb1))
  go_ret
  exact ⟨rfl, HB⟩
end Go.Proofs.YthgpinamglpniabDoor
