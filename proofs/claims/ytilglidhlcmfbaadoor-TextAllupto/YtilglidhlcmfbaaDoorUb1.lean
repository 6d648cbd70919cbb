import Derived.Test.YtilglidhlcmfbaaDoorBaseLoop
import Derived.Test.YtilglidhlcmfbaaDoorUbMath
import Derived.Deep.QuietTactic
import Derived.BigQuiet
namespace Go.Proofs.YtilglidhlcmfbaaDoor
open Go.RowKit
open TextMath (al grp b64 bo wv ch Gd gF dec)

/-- The worth as the program tells it. -/
def bw (c : UInt8) : Int := match bo c with | some n => (n : Int) | none => -1
theorem bw_ch (c : UInt8) (h : ch c = true) : bw c = (wv c : Int) := by unfold bw; rw [(TextMath.ch_wv c h).1]
theorem bw_no (c : UInt8) (h : ch c = false) : bw c = -1 := by
  unfold bw; unfold ch at h
  cases hb : bo c with
  | none => rfl
  | some n => rw [hb] at h; cases h
theorem bw_big (c : UInt8) (h : 128 ≤ c.toNat) : bw c = -1 := by
  unfold bw bo
  rw [if_neg (by omega), if_neg (by omega), if_neg (by omega), if_neg (by omega), if_neg (by omega)]

def WTab (w : World) : Prop := ∀ i, i < 128 → w.cell? ⟨2, i, none⟩ = some (.int .i8 (bw (UInt8.ofNat i)))
theorem WTab.below {w w' : World} (h : WTab w) (hb : Below w.heap.size w w') : WTab w' := fun i hi => by
  rw [hb.cell (blockA_lt (h i hi))]; exact h i hi
theorem WTab.drewN {w : World} (h : WTab w) (n : Nat) : WTab (w.drewN n) := fun i hi => h i hi

theorem bw_range (c : UInt8) : -1 ≤ bw c ∧ bw c < 64 := by
  cases h : ch c
  · rw [bw_no c h]; omega
  · rw [bw_ch c h]; have := (TextMath.ch_wv c h).2.1; omega

set_option maxRecDepth 100000 in
set_option maxHeartbeats 400000 in
theorem worth_any (c : UInt8) (w : World) (ht : WTab w) :
    Calls Tryd.prog 47 #[.int .u8 (c.toNat : Int)] w fun e w' => e = .returned (.int .i64 (bw c)) ∧ w' = w := by
  have hc256 : c.toNat < 256 := c.toNat_lt
  by_cases h : c.toNat < 128
  · have hc := ht c.toNat h
    have e : UInt8.ofNat c.toNat = c := by simp
    rw [e] at hc
    have hr := bw_range c
    have hlt : (c.toNat : Int) < 128 := by omega
    clear e
    generalize bw c = v at *
    go_enter Tryd.func47, Tryd.ntmps47
    go_wp2
    go_ret
    exact ⟨rfl, rfl⟩
  · rw [bw_big c (by omega)]
    go_enter Tryd.func47, Tryd.ntmps47
    go_wp2
    go_ret
    exact ⟨rfl, rfl⟩

theorem lastIs (f : ByteArray) (h1 : 1 ≤ f.size) : ((f.extract (f.size - 1) f.size).toList == [61]) = (f.data.toList.getLast? == some 61) := by
  have hl := size_l f
  have e : (f.extract (f.size - 1) f.size).toList = [f.data.toList[f.data.toList.length - 1]'(by omega)] := by
    rw [Lib.toList_data, drop_l, ← hl, List.drop_eq_getElem_cons (by omega), List.drop_eq_nil_of_le (by omega)]
  rw [e, List.getLast?_eq_getElem?, List.getElem?_eq_getElem (by omega)]
  rw [Bool.eq_iff_iff]; simp

set_option maxHeartbeats 400000 in
theorem hasSuffix_any (f : ByteArray) (w : World) (hm : f.size ≤ maxLen) :
    Calls Tryd.prog 44 #[.string f, .string ⟨#[61]⟩] w fun e w' => e = .returned (.bool (f.data.toList.getLast? == some 61)) ∧ w' = w := by
  unfold maxLen at hm
  by_cases h1 : 1 ≤ f.size
  · have e := lastIs f h1
    generalize (f.data.toList.getLast? == some 61) = b at *
    go_enter Tryd.func44, Tryd.ntmps44
    go_wp2
    all_goals
      go_ret
      exact ⟨rfl, rfl⟩
  · have hz : f.data.toList = [] := List.eq_nil_of_length_eq_zero (by rw [size_l]; omega)
    rw [hz]
    go_enter Tryd.func44, Tryd.ntmps44
    go_wp2
    go_ret
    exact ⟨rfl, rfl⟩
end Go.Proofs.YtilglidhlcmfbaaDoor
