import Derived.Test.YtilglidhlcmfbaaDoorRefFold
import Derived.Test.YtilglidhlcmfbaaDoorHexMath
import Derived.Test.YtilglidhlcmfbaaDoorHexLaws
namespace Go.Proofs.YtilglidhlcmfbaaDoor
open Go.RowKit
open TextMath (dg hex wo unhex pre fold lo)

/-- The text of the digits. -/
def DIG : ByteArray := ⟨#[48, 49, 50, 51, 52, 53, 54, 55, 56, 57, 97, 98, 99, 100, 101, 102]⟩
theorem DIG_at : ∀ q : Fin 16, DIG.data.toList.getD q.val 0 = dg q.val := by decide
theorem DIG_get (q : Nat) (h : q < 16) (h' : q < DIG.size) : DIG[q] = dg q := by
  rw [← getD_s DIG q h']; exact DIG_at ⟨q, h⟩

/-- The place of a byte in a text; -1: it isn't there. -/
def pos (l : List UInt8) (c : UInt8) : Int := if l.findIdx (· == c) < l.length then (l.findIdx (· == c) : Int) else -1

set_option maxHeartbeats 400000 in
theorem at_any (t : ByteArray) (c : UInt8) (w : World) (hm : t.size ≤ 1048576) :
    Calls Tryd.prog 49 #[.string t, .int .u8 (c.toNat : Int)] w fun e w' => e = .returned (.int .i64 (pos t.data.toList c)) ∧ w = w' := by
  have hL : Hid (t.data.toList.length = t.size) := size_l t
  go_enter Tryd.func49, Tryd.ntmps49
  go_wp2
  go_loop [5] (fun i => ∃ k : Nat, k ≤ t.size ∧ i = .int .i64 k ∧ Hid (∀ j (hj : j < t.data.toList.length), j < k → t.data.toList[j] ≠ c)) (fun i => t.size - (intOf i).toNat)
  case atStart => exact ⟨0, Nat.zero_le _, rfl, fun _ _ h => by omega⟩
  case round =>
    obtain ⟨k, hk, rfl, hn⟩ := hrel
    by_cases hlt : k < t.size
    · have hkl : k < t.data.toList.length := by rw [hL.out]; exact hlt
      by_cases hc : t[k] = c
      · have hb : (((t[k].toNat : Nat) : Int) == (c.toNat : Int)) = true := by rw [hc]; simp
        have hp : Hid (((k : Nat) : Int) = pos t.data.toList c) := by
          have hi : t.data.toList.findIdx (· == c) = k := by
            have hle : t.data.toList.findIdx (· == c) ≤ k := by
              rcases Nat.lt_or_ge k (t.data.toList.findIdx (· == c)) with h | h
              · exfalso; have hf := List.not_of_lt_findIdx h; have hc' : t.data.toList[k] = c := hc; rw [hc'] at hf; simp at hf
              · exact h
            rcases Nat.lt_or_ge (t.data.toList.findIdx (· == c)) k with h | h
            · exfalso
              have hil : t.data.toList.findIdx (· == c) < t.data.toList.length := by omega
              exact hn.out _ hil h (by have := List.findIdx_getElem (w := hil); simpa using this)
            · omega
          unfold Hid pos; rw [hi, if_pos hkl]
        clear hn
        go_wp2
        go_ret
        exact ⟨ret_int hp.out, rfl⟩
      · have hne : t[k].toNat ≠ c.toNat := fun h => hc (UInt8.toNat_inj.1 h)
        have hb : (((t[k].toNat : Nat) : Int) == (c.toNat : Int)) = false := by simp; omega
        have hn' : Hid (∀ j (hj : j < t.data.toList.length), j < k + 1 → t.data.toList[j] ≠ c) := by
          intro j hj hjk
          by_cases e : j = k
          · subst e; exact hc
          · exact hn.out j hj (by omega)
        clear hn hne
        go_wp2
        go_round
        case rel => exact ⟨k + 1, by omega, by go_num, hn'⟩
        case measure => simp [intOf]; omega
    · have hp : Hid ((-1 : Int) = pos t.data.toList c) := by
        unfold Hid pos
        rw [if_neg]
        intro h
        exact hn.out _ h (by rw [hL.out] at h; omega) (by have := List.findIdx_getElem (w := h); simpa using this)
      go_wp2
      go_ret
      exact ⟨ret_int hp.out, rfl⟩
end Go.Proofs.YtilglidhlcmfbaaDoor
