import Derived.Test.YtgdinncdhjeokaaGreatDoorFUb12
namespace Go.Proofs.YtgdinncdhjeokaaGreatDoor
open Go.RowKit
open TextMath (al grp b64 bo wv ch Gd gF dec)

theorem gF_stop (g : List UInt8) (k : Nat) (hl : g.length ≤ 4) (hk : k ≤ g.length) (hall : ∀ j, j ≤ k → Gd (g.take j) = true) (hs : k = g.length ∨ Gd (g.take (k + 1)) = false) : gF g = k := by
  unfold gF
  match k, hk, hall, hs with
  | 0, _, _, hs =>
    rw [if_neg]
    rintro ⟨h1, h2⟩
    rcases hs with hs | hs
    · omega
    · rw [h2] at hs; cases hs
  | 1, hk, hall, hs =>
    rw [if_pos ⟨hk, hall 1 (by omega)⟩, if_neg]
    rintro ⟨h1, h2⟩
    rcases hs with hs | hs
    · omega
    · rw [h2] at hs; cases hs
  | 2, hk, hall, hs =>
    rw [if_pos ⟨by omega, hall 1 (by omega)⟩, if_pos ⟨hk, hall 2 (by omega)⟩, if_neg]
    rintro ⟨h1, h2⟩
    rcases hs with hs | hs
    · omega
    · rw [h2] at hs; cases hs
  | 3, hk, hall, hs =>
    rw [if_pos ⟨by omega, hall 1 (by omega)⟩, if_pos ⟨by omega, hall 2 (by omega)⟩, if_pos ⟨hk, hall 3 (by omega)⟩, if_neg]
    rintro ⟨h1, h2⟩
    rcases hs with hs | hs
    · omega
    · rw [h2] at hs; cases hs
  | 4, hk, hall, hs =>
    rw [if_pos ⟨by omega, hall 1 (by omega)⟩, if_pos ⟨by omega, hall 2 (by omega)⟩, if_pos ⟨by omega, hall 3 (by omega)⟩, if_pos ⟨hk, hall 4 (by omega)⟩]
  | k + 5, hk, _, _ => omega

set_option maxHeartbeats 1000000 in
theorem groupFront_any (g : ByteArray) (w : World) (hl : g.size ≤ 4) (ht : WTab w) :
    Calls Tryz.prog 83 #[.string g] w fun e w' => e = .returned (.int .i64 (gF g.data.toList : Nat)) ∧ Below w.heap.size w w' := by
  have hL : Hid (g.data.toList.length = g.size) := size_l g
  go_enter Tryz.func83, Tryz.ntmps83
  go_wp2
  go_loopw [3] (fun t wr => ∃ k : Nat, k ≤ g.size ∧ t = .int .i64 k ∧ Below w.heap.size w wr ∧ Hid (∀ j, j ≤ k → Gd (g.data.toList.take j) = true)) (fun t _ => g.size - (intOf t).toNat)
  case atStart => exact ⟨0, Nat.zero_le _, rfl, Below.refl _ _, fun j hj => by rw [Nat.le_zero.1 hj]; rfl⟩
  case round =>
    obtain ⟨k, hk, rfl, hb, hall⟩ := hrel
    by_cases hlt : k < g.size
    · have hkl : k < g.data.toList.length := by rw [hL.out]; exact hlt
      have h3 : (g.extract 0 k).size ≤ 3 := by simp; omega
      have hg : Gd (g.extract 0 k).data.toList = true := by rw [take_l]; exact hall.out k (Nat.le_refl _)
      have hcall : ∀ W, WTab W → Hid (Calls Tryz.prog 97 #[.string (g.extract 0 k), .int .u8 (g[k].toNat : Int)] W fun e w' => e = .returned (.bool (Gd (g.data.toList.take (k + 1)))) ∧ w' = W) := fun W hW => by
        have := goesOn_any (g.extract 0 k) g[k] W hg h3 hW
        rw [take_l, ← take_snoc g k hlt] at this
        exact this
      have c1 : (k : Int) < (g.size : Int) := by omega
      have c2 : (0 : Int) ≤ (k : Int) := by omega
      have c3 : (k : Int) ≤ (g.size : Int) := by omega
      have htr := ht.below hb
      clear h3 hg
      cases hn : Gd (g.data.toList.take (k + 1))
      · have HR : Hid (gF g.data.toList = k) := gF_stop _ k (by rw [hL.out]; exact hl) (by omega) hall.out (Or.inr hn)
        rw [hn] at hcall
        clear hn hall
        go_wp2
        go_quiet ((go_at_call 97; exact Calls.quiet_of_same (hcall _ (htr.drewN _)).out))
        go_wp2
        go_ret
        exact ⟨ret_int (by rw [HR.out]), below_drewN hb _⟩
      · have HA : Hid (∀ j, j ≤ k + 1 → Gd (g.data.toList.take j) = true) := fun j hj => by
          by_cases e : j = k + 1
          · subst e; exact hn
          · exact hall.out j (by omega)
        rw [hn] at hcall
        clear hn hall
        go_wp2
        go_quiet ((go_at_call 97; exact Calls.quiet_of_same (hcall _ (htr.drewN _)).out))
        go_wp2
        first
          | exact ⟨⟨k + 1, by omega, by go_num, below_drewN hb _, HA⟩, by simp [intOf]; omega⟩
          | (go_roundw
             case rel => exact ⟨k + 1, by omega, by go_num, below_drewN hb _, HA⟩
             case measure => simp [intOf]; omega)
    · have hke : k = g.size := by omega
      have HR : Hid (gF g.data.toList = k) := gF_stop _ k (by rw [hL.out]; exact hl) (by rw [hL.out]; omega) hall.out (Or.inl (by rw [hL.out]; exact hke))
      have d1 : decide ((k : Int) < (g.size : Int)) = false := by simp; omega
      clear hall hke
      go_wp2
      go_quiet (fail)
      go_wp2
      go_ret
      exact ⟨ret_int (by rw [HR.out]), below_drewN hb _⟩
end Go.Proofs.YtgdinncdhjeokaaGreatDoor

namespace Go.Proofs.YtgdinncdhjeokaaGreatDoor
open Go.RowKit
open TextMath (al grp b64 bo wv ch Gd gF dec)

/-- How much is left without the = at the end. -/
def fl (l : List UInt8) : Nat := (l.reverse.dropWhile (· == 61)).length
theorem fl_le (l : List UInt8) : fl l ≤ l.length := by
  unfold fl
  have := (List.dropWhile_suffix (l := l.reverse) (· == 61)).length_le
  simpa using this
theorem fl_pad (l : List UInt8) (k : Nat) (hk : k < l.length) (h : l[k] = 61) : fl (l.take (k + 1)) = fl (l.take k) := by
  unfold fl
  rw [List.take_succ_eq_append_getElem hk, h]; simp
theorem fl_stop (l : List UInt8) (k : Nat) (hk : k < l.length) (h : l[k] ≠ 61) : fl (l.take (k + 1)) = k + 1 := by
  unfold fl
  rw [List.take_succ_eq_append_getElem hk, List.reverse_append, List.reverse_singleton, List.singleton_append, List.dropWhile_cons, if_neg (by simpa using h)]
  simp only [List.length_cons, List.length_reverse, List.length_take]; omega

set_option maxHeartbeats 1000000 in
theorem trimRightByte_any (s : ByteArray) (w : World) (hm : s.size ≤ 4) :
    Calls Tryz.prog 115 #[.string s, .int .u8 61] w fun e w' => (∃ t : ByteArray, e = .returned (.string t) ∧ t.size = fl s.data.toList) ∧ w' = w := by
  have hL : Hid (s.data.toList.length = s.size) := size_l s
  go_enter Tryz.func115, Tryz.ntmps115
  go_wp2
  go_loop [0] (fun sv => ∃ t : ByteArray, sv = .string t ∧ t.size ≤ s.size ∧ Hid (t.data.toList = s.data.toList.take t.size) ∧ Hid (fl s.data.toList = fl (s.data.toList.take t.size))) (fun sv => szOf sv)
  case atStart => exact ⟨s, rfl, Nat.le_refl _, by unfold Hid; rw [List.take_of_length_le (by rw [hL.out]; exact Nat.le_refl _)], by unfold Hid; rw [List.take_of_length_le (by rw [hL.out]; exact Nat.le_refl _)]⟩
  case round =>
    obtain ⟨t, rfl, hts, htl, hfl⟩ := hrel
    by_cases hp : 0 < t.size
    · have hpl : t.size - 1 < t.size := by omega
      have hk : t.size - 1 < s.data.toList.length := by rw [hL.out]; omega
      have hget : t[t.size - 1]'hpl = s.data.toList[t.size - 1] := by
        rw [← getD_s t (t.size - 1) hpl, htl.out]
        simp only [List.getD, List.getElem?_take]
        rw [if_pos hpl, List.getElem?_eq_getElem hk]; rfl
      have e : t.size - 1 + 1 = t.size := by omega
      by_cases hc : s.data.toList[t.size - 1] = 61
      · have hf := fl_pad s.data.toList (t.size - 1) hk hc
        rw [e] at hf
        have hb : (((t[t.size - 1]'hpl).toNat : Int) == 61) = true := by rw [hget, hc]; rfl
        have HT : Hid ((t.extract 0 (t.size - 1)).data.toList = s.data.toList.take (t.extract 0 (t.size - 1)).size) := by
          unfold Hid; rw [take_l, htl.out, List.take_take]
          congr 1; simp
        have HF : Hid (fl s.data.toList = fl (s.data.toList.take (t.extract 0 (t.size - 1)).size)) := by
          unfold Hid; rw [hfl.out, hf]
          congr 2; simp
        clear hget hf hc hfl htl e
        go_wp2
        go_round
        case rel => exact ⟨t.extract 0 (t.size - 1), rfl, by simp; omega, HT, HF⟩
        case measure => simp [szOf]; omega
      · have hf := fl_stop s.data.toList (t.size - 1) hk hc
        rw [e] at hf
        have hne : s.data.toList[t.size - 1].toNat ≠ 61 := fun h => hc (by apply UInt8.toNat_inj.1; exact h)
        have hb : (((t[t.size - 1]'hpl).toNat : Int) == 61) = false := beq_eq_false_iff_ne.2 (by rw [hget]; omega)
        have HR : Hid (t.size = fl s.data.toList) := by unfold Hid; rw [hfl.out, hf]
        clear hget hf hc hfl htl e hne
        go_wp2
        go_ret
        exact ⟨⟨t, rfl, HR.out⟩, rfl⟩
    · have HR : Hid (t.size = fl s.data.toList) := by
        have hz : t.size = 0 := by omega
        unfold Hid; rw [hfl.out, hz]; rfl
      clear hfl htl
      go_wp2
      go_ret
      exact ⟨⟨t, rfl, HR.out⟩, rfl⟩

set_option maxRecDepth 100000 in
set_option maxHeartbeats 1000000 in
theorem trimRight_any (s : ByteArray) (w : World) (hm : s.size = 4) :
    Calls Tryz.prog 98 #[.string s, .string ⟨#[61]⟩] w fun e w' => (∃ t : ByteArray, e = .returned (.string t) ∧ t.size = fl s.data.toList) ∧ w' = w := by
  have hcall := trimRightByte_any s w (by omega)
  have HC : Hid (Calls Tryz.prog 115 #[.string s, .int .u8 61] w fun e w' => (∃ t : ByteArray, e = .returned (.string t) ∧ t.size = fl s.data.toList) ∧ w' = w) := hcall
  have hne : s.toList.isEmpty = false := by
    rw [Lib.toList_data]
    have := size_l s
    cases h : s.data.toList with
    | nil => rw [h] at this; simp at this; omega
    | cons a b => rfl
  clear hcall hm
  go_enter Tryz.func98, Tryz.ntmps98
  go_wp2_with (go_at_call 115; refine HC.out.mono ?_; rintro e w' ⟨⟨t, rfl, ht⟩, rfl⟩; have HT : Hid (_ = _) := ht; clear ht)
  go_ret
  exact ⟨⟨t, rfl, HT.out⟩, rfl⟩
end Go.Proofs.YtgdinncdhjeokaaGreatDoor
