import Derived.Test.YtkknenmpdimdbaaDoorAtFind
namespace Go.Proofs.YtkknenmpdimdbaaDoor
open Go.RowKit

/-- The canonical type of a folded text. -/
def canN (f : ByteArray) : ByteArray := match rowOf f with
  | none => f
  | some i => (rowL i).1
set_option maxRecDepth 100000 in
set_option maxHeartbeats 400000 in
theorem canonical_any (f : ByteArray) (b B : Nat) (W : World) (hbk : Book W b B) (hM : W.ownsMap Tryd.prog 9 (plainElem (H := Nat) Tryd.prog 3) B 186 (mapD [f] (upF 62))) (hfz : f.size ≤ maxLen) :
    Calls Tryd.prog 49 #[.pointer (some ⟨b, 0, none⟩), .string f] W fun e w' => e = .returned (.string (canN f)) ∧ w' = W := by
  obtain ⟨D, hD⟩ : ∃ D, mapD [f] (upF 62) = D := ⟨_, rfl⟩
  have hhas := map_has f
  have hat := fun i h => map_at f i h (.lit (.int .i64 0))
  rw [hD] at hM hhas hat
  have hM4 : Hid (W.ownsMap Tryd.prog 9 (plainElem (H := Nat) Tryd.prog 3) B 186 D) := hM
  have hkey : Hid (keyOf Tryd.prog 9 (.string f) = some (.string f.data.toList)) := key_str f hfz
  have q4 := hbk.map
  have hbk' : Hid (Book W b B) := hbk
  clear hD hM hbk
  cases hrow : rowOf f with
  | none =>
    rw [hrow] at hhas
    have hhas' : Maps.has D (.string f.data.toList) = false := hhas
    have hfin : Hid (canN f = f) := by unfold Hid canN; rw [hrow]
    clear hhas hat
    go_enter Tryd.func49, Tryd.ntmps49
    go_wp2_with (at_lookup; refine wpList_lookup_own_ok_int _ rfl _ _ 107 rfl 9 3 .i64 (Maps.string_keyed Tryd.underlying9) Tryd.underlying107 Tryd.underlying3 (Tryd.zeroValue3 _) B 186 D rfl hM4.out _ _ rfl hkey.out ?_; intro c hatc hwc)
    go_ret
    exact ⟨by rw [hfin.out]; rfl, rfl⟩
  | some i =>
    rw [hrow] at hhas
    have hhas' : Maps.has D (.string f.data.toList) = true := hhas
    have hati := hat i hrow
    have hati' : Hid (D.atKey (.string f.data.toList) (.lit (.int .i64 0)) = .lit (.int .i64 (i.1 : Int))) := hati
    have hfin : Hid (canN f = (rowL i).1) := by unfold Hid canN; rw [hrow]
    obtain ⟨c0, _, _⟩ := hbk'.out.cells i
    have i0 : (0 : Int) ≤ (i.1 : Int) := Int.natCast_nonneg _
    have i1 : (i.1 : Int) < 62 := by have := i.2; omega
    clear hhas hat hati
    go_enter Tryd.func49, Tryd.ntmps49
    go_wp2_with (at_lookup; refine wpList_lookup_own_ok_int _ rfl _ _ 107 rfl 9 3 .i64 (Maps.string_keyed Tryd.underlying9) Tryd.underlying107 Tryd.underlying3 (Tryd.zeroValue3 _) B 186 D rfl hM4.out _ _ rfl hkey.out ?_; intro c hatc hwc; obtain rfl : c = (i.1 : Int) := (by rw [hati'.out] at hatc; injection hatc with hatc; injection hatc with _ hatc; exact hatc.symm))
    go_ret
    exact ⟨by rw [hfin.out]; rfl, rfl⟩
end Go.Proofs.YtkknenmpdimdbaaDoor
