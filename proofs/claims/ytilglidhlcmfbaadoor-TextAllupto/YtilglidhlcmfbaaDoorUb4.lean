import Derived.Test.YtilglidhlcmfbaaDoorUb3
namespace Go.Proofs.YtilglidhlcmfbaaDoor
open Go.RowKit
open TextMath (al grp b64 bo wv ch Gd gF dec)

/-- How much is left without the = at the end. -/
def fl (l : List UInt8) : Nat := (l.reverse.dropWhile (· == 61)).length
theorem fl_le (l : List UInt8) : fl l ≤ l.length := by
  unfold fl
  have := (List.dropWhile_suffix (l := l.reverse) (· == 61)).length_le
  simpa using this
theorem fl_pad (l : List UInt8) (k : Nat) (hk : k < l.length) (h : l[k] = 61) : fl (l.take (k + 1)) = fl (l.take k) := by
  unfold fl
  rw [List.take_succ_eq_append_getElem hk, h]; simp
theorem fl_stop (l : List UInt8) (k : Nat) (hk : k < l.length) (h : l[k] ≠ 61) : fl (l.take (k + 1)) = k + 1 := by
  unfold fl
  rw [List.take_succ_eq_append_getElem hk, List.reverse_append, List.reverse_singleton, List.singleton_append, List.dropWhile_cons, if_neg (by simpa using h)]
  simp only [List.length_cons, List.length_reverse, List.length_take]; omega

set_option maxHeartbeats 1000000 in
theorem trimRightByte_any (s : ByteArray) (w : World) (hm : s.size ≤ 4) :
    Calls Tryd.prog 56 #[.string s, .int .u8 61] w fun e w' => (∃ t : ByteArray, e = .returned (.string t) ∧ t.size = fl s.data.toList) ∧ w' = w := by
  have hL : Hid (s.data.toList.length = s.size) := size_l s
  go_enter Tryd.func56, Tryd.ntmps56
  go_wp2
  go_loop [0] (fun sv => ∃ t : ByteArray, sv = .string t ∧ t.size ≤ s.size ∧ Hid (t.data.toList = s.data.toList.take t.size) ∧ Hid (fl s.data.toList = fl (s.data.toList.take t.size))) (fun sv => szOf sv)
  case atStart => exact ⟨s, rfl, Nat.le_refl _, by unfold Hid; rw [List.take_of_length_le (by rw [hL.out]; exact Nat.le_refl _)], by unfold Hid; rw [List.take_of_length_le (by rw [hL.out]; exact Nat.le_refl _)]⟩
  case round =>
    obtain ⟨t, rfl, hts, htl, hfl⟩ := hrel
    by_cases hp : 0 < t.size
    · have hpl : t.size - 1 < t.size := by omega
      have hk : t.size - 1 < s.data.toList.length := by rw [hL.out]; omega
      have hget : t[t.size - 1]'hpl = s.data.toList[t.size - 1] := by
        rw [← getD_s t (t.size - 1) hpl, htl.out]
        simp only [List.getD, List.getElem?_take]
        rw [if_pos hpl, List.getElem?_eq_getElem hk]; rfl
      have e : t.size - 1 + 1 = t.size := by omega
      by_cases hc : s.data.toList[t.size - 1] = 61
      · have hf := fl_pad s.data.toList (t.size - 1) hk hc
        rw [e] at hf
        have hb : (((t[t.size - 1]'hpl).toNat : Int) == 61) = true := by rw [hget, hc]; rfl
        have HT : Hid ((t.extract 0 (t.size - 1)).data.toList = s.data.toList.take (t.extract 0 (t.size - 1)).size) := by
          unfold Hid; rw [take_l, htl.out, List.take_take]
          congr 1; simp
        have HF : Hid (fl s.data.toList = fl (s.data.toList.take (t.extract 0 (t.size - 1)).size)) := by
          unfold Hid; rw [hfl.out, hf]
          congr 2; simp
        clear hget hf hc hfl htl e
        go_wp2
        go_round
        case rel => exact ⟨t.extract 0 (t.size - 1), rfl, by simp; omega, HT, HF⟩
        case measure => simp [szOf]; omega
      · have hf := fl_stop s.data.toList (t.size - 1) hk hc
        rw [e] at hf
        have hne : s.data.toList[t.size - 1].toNat ≠ 61 := fun h => hc (by apply UInt8.toNat_inj.1; exact h)
        have hb : (((t[t.size - 1]'hpl).toNat : Int) == 61) = false := beq_eq_false_iff_ne.2 (by rw [hget]; omega)
        have HR : Hid (t.size = fl s.data.toList) := by unfold Hid; rw [hfl.out, hf]
        clear hget hf hc hfl htl e hne
        go_wp2
        go_ret
        exact ⟨⟨t, rfl, HR.out⟩, rfl⟩
    · have HR : Hid (t.size = fl s.data.toList) := by
        have hz : t.size = 0 := by omega
        unfold Hid; rw [hfl.out, hz]; rfl
      clear hfl htl
      go_wp2
      go_ret
      exact ⟨⟨t, rfl, HR.out⟩, rfl⟩

set_option maxRecDepth 100000 in
set_option maxHeartbeats 1000000 in
theorem trimRight_any (s : ByteArray) (w : World) (hm : s.size = 4) :
    Calls Tryd.prog 46 #[.string s, .string ⟨#[61]⟩] w fun e w' => (∃ t : ByteArray, e = .returned (.string t) ∧ t.size = fl s.data.toList) ∧ w' = w := by
  have hcall := trimRightByte_any s w (by omega)
  have HC : Hid (Calls Tryd.prog 56 #[.string s, .int .u8 61] w fun e w' => (∃ t : ByteArray, e = .returned (.string t) ∧ t.size = fl s.data.toList) ∧ w' = w) := hcall
  have hne : s.toList.isEmpty = false := by
    rw [Lib.toList_data]
    have := size_l s
    cases h : s.data.toList with
    | nil => rw [h] at this; simp at this; omega
    | cons a b => rfl
  clear hcall hm
  go_enter Tryd.func46, Tryd.ntmps46
  go_wp2_with (go_at_call 56; refine HC.out.mono ?_; rintro e w' ⟨⟨t, rfl, ht⟩, rfl⟩; have HT : Hid (_ = _) := ht; clear ht)
  go_ret
  exact ⟨⟨t, rfl, HT.out⟩, rfl⟩
end Go.Proofs.YtilglidhlcmfbaaDoor
