import Derived.Test.YtoofphmplfbjgaaGreatUnhex
namespace Go.Proofs.YtoofphmplfbjgaaGreat
open Go.RowKit
open TextMath (dg hex wo unhex pre)

/-- What Unhex answers. -/
def uhV (n : Nat) : Except Nat (List UInt8) → Value
  | .ok t => .tuple #[.string (S t), .int .i64 0, .int .i64 (n : Int)]
  | .error p => .tuple #[.string ⟨#[]⟩, .int .i64 11, .int .i64 (p : Int)]

theorem ret_tup {a b : Value} (h : a = b) : Ending.returned a = .returned b := by rw [h]

theorem or16 (x y : Nat) (hx : x < 16) (hy : y < 16) : bits .or .u8 ((x : Int) * 16) (y : Int) = ((16 * x + y : Nat) : Int) := by
  have e := u8_or_nat (16 * x) y (by omega) (by omega)
  have h := nat_join 4 (16 * x) y (by omega) (by omega)
  rw [h] at e
  have e2 : ((x : Int) * 16) = ((16 * x : Nat) : Int) := by omega
  rw [e2, e]

section
variable (l : List UInt8) (k : Nat) (o : List UInt8)
theorem st_even (he : k % 2 = 0) (h : unhex l 0 = pre o (unhex (l.drop (k - k % 2)) (k - k % 2))) : unhex l 0 = pre o (unhex (l.drop (k + 1 - (k + 1) % 2)) (k + 1 - (k + 1) % 2)) := by
  have e : k + 1 - (k + 1) % 2 = k - k % 2 := by omega
  rw [e]; exact h
theorem st_bad0 (hk : k < l.length) (he : k % 2 = 0) (h : unhex l 0 = pre o (unhex (l.drop (k - k % 2)) (k - k % 2))) (hb : wo l[k] = none) : unhex l 0 = .error k := by
  rw [h, he, Nat.sub_zero, List.drop_eq_getElem_cons hk, TextMath.unhex_bad _ _ _ hb]; rfl
theorem drop2 (hk : k < l.length) (ho : k % 2 = 1) : l.drop (k - k % 2) = l[k - 1]'(by omega) :: l[k] :: l.drop (k + 1) := by
  rw [ho, List.drop_eq_getElem_cons (by omega)]
  have e : k - 1 + 1 = k := by omega
  rw [e, List.drop_eq_getElem_cons hk]
theorem st_bad1 (hk : k < l.length) (ho : k % 2 = 1) (h : unhex l 0 = pre o (unhex (l.drop (k - k % 2)) (k - k % 2))) (x : Nat) (hx : wo (l[k - 1]'(by omega)) = some x) (hb : wo l[k] = none) : unhex l 0 = .error k := by
  rw [h, drop2 l k hk ho, TextMath.unhex_bad2 _ _ _ _ x hx hb, ho]
  have e : k - 1 + 1 = k := by omega
  rw [e]; rfl
theorem st_pair (hk : k < l.length) (ho : k % 2 = 1) (h : unhex l 0 = pre o (unhex (l.drop (k - k % 2)) (k - k % 2))) (x y : Nat) (hx : wo (l[k - 1]'(by omega)) = some x) (hy : wo l[k] = some y) :
    unhex l 0 = pre (o ++ [UInt8.ofNat (16 * x + y)]) (unhex (l.drop (k + 1 - (k + 1) % 2)) (k + 1 - (k + 1) % 2)) := by
  have e : k + 1 - (k + 1) % 2 = k + 1 := by omega
  have e2 : k - 1 + 2 = k + 1 := by omega
  rw [h, drop2 l k hk ho, TextMath.unhex_pair _ _ _ _ x y hx hy, TextMath.pre_pre, e, ho, e2]
theorem st_end0 (hk : k = l.length) (he : k % 2 = 0) (h : unhex l 0 = pre o (unhex (l.drop (k - k % 2)) (k - k % 2))) : unhex l 0 = .ok o := by
  rw [h, he, Nat.sub_zero, List.drop_eq_nil_of_le (by omega)]; simp [unhex, pre]
theorem st_end1 (hk : k = l.length) (ho : k % 2 = 1) (h : unhex l 0 = pre o (unhex (l.drop (k - k % 2)) (k - k % 2))) (x : Nat) (hx : wo (l[k - 1]'(by omega)) = some x) : unhex l 0 = .error k := by
  rw [h, ho, List.drop_eq_getElem_cons (by omega), List.drop_eq_nil_of_le (by omega), TextMath.unhex_odd _ _ x hx]
  have e : k - 1 + 1 = k := by omega
  rw [e]; rfl
end

set_option maxRecDepth 100000 in
set_option maxHeartbeats 1000000 in
theorem unhex_any (s : ByteArray) (w : World) (hm : s.size ≤ 281474976710656) :
    Calls Tryz.prog 174 #[.string s] w fun e w' => e = .returned (uhV s.size (unhex s.data.toList 0)) ∧ Below w.heap.size w w' := by
  have hL : Hid (s.data.toList.length = s.size) := size_l s
  obtain ⟨i0, hi, hz0, hz1, hz2⟩ := info_parts info_u8
  go_enter Tryz.func174, Tryz.ntmps174
  go_wp2_with (at_make; refine wpList_make_own _ rfl _ _ 46 rfl w.heap.size 5 i0 (.int .u8 0) 1 Tryz.underlying46 hi hz0 hz1 _ _ _ (s.size / 2) rfl rfl ?_ ?_ ?_ ?_ ?_; (omega); (rw [hz2]; omega); (unfold maxLen; omega); (exact Nat.le_refl _); intro w1 hown1 hgrow1)
  have hb1 : Below w.heap.size w w1 := (Below.refl _ _).grown hgrow1 (Nat.le_refl _) (fun k h => by cases h)
  go_loopw [5, 6, 7] (fun out high i wr => ∃ (k x : Nat) (o : List UInt8), k ≤ s.size ∧ i = .int .i64 k ∧ x < 16 ∧ high = .int .u8 (x : Int) ∧ out = .slice (some ⟨w.heap.size, 0, none⟩) (k / 2) (s.size / 2) ∧ Below w.heap.size w wr ∧ w.heap.size < wr.heap.size ∧ wr.ownsRow w.heap.size 5 1 (.slice (some ⟨w.heap.size, 0, none⟩) (k / 2) (s.size / 2)) (k / 2) (bv o)
      ∧ Hid (unhex s.data.toList 0 = pre o (unhex (s.data.toList.drop (k - k % 2)) (k - k % 2))) ∧ Hid (∀ (h : k - 1 < s.data.toList.length), k % 2 = 1 → wo s.data.toList[k - 1] = some x)) (fun _ _ i _ => s.size - (intOf i).toNat)
  case atStart => exact ⟨0, 0, [], Nat.zero_le _, rfl, by omega, rfl, rfl, hb1, (hown1.lt _ rfl).2, hown1, by unfold Hid; simp [TextMath.pre_nil], fun _ h => by omega⟩
  case round =>
    clear hown1 hgrow1 hb1
    obtain ⟨k, x, o, hk, rfl, hx16, rfl, rfl, hb, hgs, hown, hun, hwx⟩ := hrel
    by_cases hlt : k < s.size
    · have hkl : k < s.data.toList.length := by rw [hL.out]; exact hlt
      cases hw : wo s[k] with
      | none =>
        have hres : Hid (unhex s.data.toList 0 = .error k) := by
          rcases Nat.mod_two_eq_zero_or_one k with h0 | h1
          · exact st_bad0 _ k o hkl h0 hun.out hw
          · exact st_bad1 _ k o hkl h1 hun.out x (hwx.out (by omega) h1) hw
        have Hw : Hid (wo s[k] = none) := hw
        clear hw hun hwx hown
        go_wp2_with (go_at_call 188; refine (hexWorth_any _ _).mono ?_; rintro e w' ⟨rfl, rfl⟩; rw [Hw.out])
        go_ret3
        exact ⟨ret_tup (by rw [hres.out]; rfl), hb⟩
      | some y =>
        have hy16 := TextMath.wo_lt _ _ hw
        rcases Nat.mod_two_eq_zero_or_one k with h0 | h1
        · have HU : Hid (_ = _) := st_even _ k o h0 hun.out
          have hh : (((k : Nat) : Int) % 2 == 0) = true := by simp; omega
          have hk2 : (k + 1) / 2 = k / 2 := by omega
          have HX : Hid (∀ (h : k + 1 - 1 < s.data.toList.length), (k + 1) % 2 = 1 → wo s.data.toList[k + 1 - 1] = some y) := fun _ _ => hw
          have Hw : Hid (wo s[k] = some y) := hw
          clear hw hun hwx
          go_wp2_with (go_at_call 188; refine (hexWorth_any _ _).mono ?_; rintro e w' ⟨rfl, rfl⟩; rw [Hw.out])
          go_roundw
          case rel => exact ⟨k + 1, y, o, by omega, by go_num, hy16, rfl, by rw [hk2], hb, hgs, by rw [hk2]; exact hown, HU, HX⟩
          case measure => simp [intOf]; omega
        · have HU : Hid (_ = _) := st_pair _ k o hkl h1 hun.out x y (hwx.out (by omega) h1) hw
          have hh : (((k : Nat) : Int) % 2 == 0) = false := by simp; omega
          have hk2 : (k + 1) / 2 = k / 2 + 1 := by omega
          have hroom : k / 2 + 1 ≤ s.size / 2 := by omega
          have hor := or16 x y hx16 hy16
          have hnew : Hid (bv (o ++ [UInt8.ofNat (16 * x + y)]) = bv o ++ [.int .u8 ((16 * x + y : Nat) : Int)]) := by
            unfold Hid; rw [bv_app]; congr 1
            show [Value.int .u8 ((UInt8.ofNat (16 * x + y)).toNat : Int)] = _
            rw [UInt8.toNat_ofNat', Nat.mod_eq_of_lt (by omega)]
          have HX : Hid (∀ (h : k + 1 - 1 < s.data.toList.length), (k + 1) % 2 = 1 → wo s.data.toList[k + 1 - 1] = some x) := fun _ h => by omega
          have Hw : Hid (wo s[k] = some y) := hw
          clear hw hun hwx
          generalize 16 * x + y = z at *
          go_wp2_with (first | (go_at_call 188; refine (hexWorth_any _ _).mono ?_; rintro e w' ⟨rfl, rfl⟩; rw [Hw.out]) | (at_builtin; refine wpList_append_fits _ rfl _ _ 46 rfl w.heap.size 5 i0 1 Tryz.underlying46 hi hz1 w.heap.size (k / 2) (s.size / 2) _ rfl (hown.alloc _) ⟨wr.heap.size, 0, none⟩ 1 1 [.int .u8 (z : Int)] rfl rfl ?_ ?_ ?_ ?_; exact cell_one_new _ _ _; (intro u hu; simp at hu; subst hu; rfl); omega; intro w1 hown1 hgrow1))
          go_roundw
          case rel =>
            refine ⟨k + 1, x, o ++ [UInt8.ofNat z], by omega, by go_num, hx16, rfl, by rw [hk2], ?_, ?_, ?_, HU, HX⟩
            · exact (hb.alloc (by omega) _).grown hgrow1 (by simp; omega) (fun k h => by injection h with h; omega)
            · have := hgrow1.size; simp at this; omega
            · rw [hk2, hnew.out]; exact hown1
          case measure => simp [intOf]; omega
    · have hke : k = s.size := by omega
      rcases Nat.mod_two_eq_zero_or_one k with h0 | h1
      · have HR : Hid (unhex s.data.toList 0 = .ok o) := st_end0 _ k o (by rw [hL.out]; exact hke) h0 hun.out
        subst hke
        have hback := own_back (P := Tryz.prog) wr w.heap.size 46 9 5 w.heap.size _ _ _ Tryz.underlying46 Tryz.underlying5 Tryz.underlying9 hown
        have hh : (((s.size : Nat) : Int) % 2 != 0) = false := by simp; omega
        clear hown hun hwx
        go_wp2
        go_ret3
        exact ⟨ret_tup (by rw [HR.out]; rfl), hb⟩
      · have HR : Hid (unhex s.data.toList 0 = .error k) := st_end1 _ k o (by rw [hL.out]; exact hke) h1 hun.out x (hwx.out (by rw [hL.out]; omega) h1)
        subst hke
        have hh : (((s.size : Nat) : Int) % 2 != 0) = true := by rw [bne_iff_ne]; omega
        clear hown hun hwx
        go_wp2
        go_ret3
        exact ⟨ret_tup (by rw [HR.out]; rfl), hb⟩
end Go.Proofs.YtoofphmplfbjgaaGreat
