import Derived.Test.YtkecaeceeldcaaaGreatDoorFold
import Derived.Test.YtkecaeceeldcaaaGreatDoorInfo
namespace Go.Proofs.YtkecaeceeldcaaaGreatDoor
open Go.RowKit
open TextMath (col bl)

theorem bl_eq (c : UInt8) : bl c = (decide ((9 : Int) ≤ c.toNat) && decide ((c.toNat : Int) ≤ 13) || ((c.toNat : Int) == 32)) := by
  unfold bl
  rw [Bool.eq_iff_iff]
  simp only [Bool.or_eq_true, Bool.and_eq_true, decide_eq_true_eq, beq_iff_eq]
  omega

set_option maxHeartbeats 400000 in
theorem blank_any (c : UInt8) (w : World) :
    Calls Tryz.prog 164 #[.int .u8 (c.toNat : Int)] w fun e w' => e = .returned (.bool (bl c)) ∧ w = w' := by
  have hc256 : c.toNat < 256 := c.toNat_lt
  rw [bl_eq]
  generalize c.toNat = n at *
  by_cases h1 : (9 : Int) ≤ n
  · by_cases h2 : (n : Int) ≤ 13
    · go_enter Tryz.func164, Tryz.ntmps164
      go_wp2
      go_ret
      refine ⟨ret_bool ?_, rfl⟩
      simp [h1, h2]
    · have d2 : decide ((n : Int) ≤ 13) = false := by simpa using h2
      go_enter Tryz.func164, Tryz.ntmps164
      go_wp2
      all_goals
        go_ret
        refine ⟨ret_bool ?_, rfl⟩
        simp_all
  · have d1 : decide ((9 : Int) ≤ n) = false := by simpa using h1
    go_enter Tryz.func164, Tryz.ntmps164
    go_wp2
    all_goals
      go_ret
      refine ⟨ret_bool ?_, rfl⟩
      simp_all

theorem col_keep (l o : List UInt8) (k : Nat) (hk : k < l.length) (r : Bool) (h : col false l = o ++ col r (l.drop k)) (hb : bl l[k] = false) : col false l = (o ++ [l[k]]) ++ col false (l.drop (k + 1)) := by
  rw [h, List.drop_eq_getElem_cons hk]; simp [col, hb]
theorem col_space (l o : List UInt8) (k : Nat) (hk : k < l.length) (h : col false l = o ++ col false (l.drop k)) (hb : bl l[k] = true) : col false l = (o ++ [32]) ++ col true (l.drop (k + 1)) := by
  rw [h, List.drop_eq_getElem_cons hk]; simp [col, hb]
theorem col_skip (l o : List UInt8) (k : Nat) (hk : k < l.length) (h : col false l = o ++ col true (l.drop k)) (hb : bl l[k] = true) : col false l = o ++ col true (l.drop (k + 1)) := by
  rw [h, List.drop_eq_getElem_cons hk]; simp [col, hb]

set_option maxHeartbeats 1000000 in
theorem collapse_any (s : ByteArray) (w : World) (hm : s.size ≤ 281474976710656) :
    Calls Tryz.prog 138 #[.string s] w fun e w' => e = .returned (.string (S (col false s.data.toList))) ∧ Below w.heap.size w w' := by
  have hL : Hid (s.data.toList.length = s.size) := size_l s
  obtain ⟨i0, hi, hz0, hz1, hz2⟩ := info_parts info_u8
  go_enter Tryz.func138, Tryz.ntmps138
  go_wp2_with (at_make; refine wpList_make_own _ rfl _ _ 44 rfl w.heap.size 5 i0 (.int .u8 0) 1 Tryz.underlying44 hi hz0 hz1 _ _ _ s.size rfl rfl rfl ?_ ?_ ?_ ?_; (rw [hz2]; omega); (unfold maxLen; omega); (exact Nat.le_refl _); intro w1 hown1 hgrow1)
  have hb1 : Below w.heap.size w w1 := (Below.refl _ _).grown hgrow1 (Nat.le_refl _) (fun k h => by cases h)
  go_loopw [3, 4, 5] (fun out run i wr => ∃ (k : Nat) (o : List UInt8) (r : Bool), k ≤ s.size ∧ i = .int .i64 k ∧ run = .bool r ∧ out = .slice (some ⟨w.heap.size, 0, none⟩) o.length s.size ∧ o.length ≤ k ∧ Below w.heap.size w wr ∧ w.heap.size < wr.heap.size ∧ wr.ownsRow w.heap.size 5 1 (.slice (some ⟨w.heap.size, 0, none⟩) o.length s.size) o.length (bv o) ∧ Hid (col false s.data.toList = o ++ col r (s.data.toList.drop k))) (fun _ _ i _ => s.size - (intOf i).toNat)
  case atStart => exact ⟨0, [], false, Nat.zero_le _, rfl, rfl, rfl, Nat.zero_le _, hb1, (hown1.lt _ rfl).2, hown1, by unfold Hid; simp⟩
  case round =>
    clear hown1 hgrow1 hb1
    obtain ⟨k, o, r, hk, rfl, rfl, rfl, ho, hb, hgs, hown, hcol⟩ := hrel
    have hgs' : w.heap.size ≤ wr.heap.size := by omega
    by_cases hlt : k < s.size
    · have hkl : k < s.data.toList.length := by rw [hL.out]; exact hlt
      have hget : s.data.toList[k] = s[k] := rfl
      have e32 : Hid (bv (o ++ [32]) = bv o ++ [.int .u8 32]) := by unfold Hid; rw [bv_app]; rfl
      have ec : Hid (bv (o ++ [s[k]]) = bv o ++ [.int .u8 (s[k].toNat : Int)]) := by unfold Hid; rw [bv_app]; rfl
      have hlen : ∀ c : UInt8, (o ++ [c]).length = o.length + 1 := by intro c; simp
      by_cases hbl : bl s[k] = true
      · cases r
        · have HC := col_space _ o k hkl hcol.out hbl
          have HC' : Hid (_ = _) := HC
          clear HC hcol
          go_wp2_with (first | (go_at_call 164; refine (blank_any _ _).mono ?_; rintro e w' ⟨rfl, rfl⟩; rw [hbl]) | (at_builtin; refine wpList_append_fits _ rfl _ _ 44 rfl w.heap.size 5 i0 1 Tryz.underlying44 hi hz1 w.heap.size o.length s.size _ rfl (hown.alloc _) ⟨wr.heap.size, 0, none⟩ 1 1 [.int .u8 32] rfl rfl ?_ ?_ ?_ ?_; exact cell_one_new _ _ _; (intro u hu; simp at hu; subst hu; rfl); omega; intro w1 hown1 hgrow1))
          go_roundw
          case rel =>
            refine ⟨k + 1, o ++ [32], true, by omega, by go_num, rfl, by rw [hlen], by rw [hlen]; omega, ?_, ?_, ?_, HC'.out⟩
            · exact (hb.alloc hgs' _).grown hgrow1 (by simp; omega) (fun k h => by injection h with h; omega)
            · have := hgrow1.size; simp at this; omega
            · rw [hlen, e32.out]; exact hown1
          case measure => simp [intOf]; omega
        · have HC := col_skip _ o k hkl hcol.out hbl
          have HC' : Hid (_ = _) := HC
          clear HC hcol
          go_wp2_with (go_at_call 164; refine (blank_any _ _).mono ?_; rintro e w' ⟨rfl, rfl⟩; rw [hbl])
          go_roundw
          case rel => exact ⟨k + 1, o, true, by omega, by go_num, rfl, rfl, by omega, hb, hgs, hown, HC'.out⟩
          case measure => simp [intOf]; omega
      · have hbl' : bl s[k] = false := by simpa using hbl
        have HC := col_keep _ o k hkl r hcol.out hbl'
        have HC' : Hid (_ = _) := HC
        clear HC hcol hbl
        go_wp2_with (first | (go_at_call 164; refine (blank_any _ _).mono ?_; rintro e w' ⟨rfl, rfl⟩; rw [hbl']) | (at_builtin; refine wpList_append_fits _ rfl _ _ 44 rfl w.heap.size 5 i0 1 Tryz.underlying44 hi hz1 w.heap.size o.length s.size _ rfl (hown.alloc _) ⟨wr.heap.size, 0, none⟩ 1 1 [.int .u8 (s[k].toNat : Int)] rfl rfl ?_ ?_ ?_ ?_; exact cell_one_new _ _ _; (intro u hu; simp at hu; subst hu; rfl); omega; intro w1 hown1 hgrow1))
        go_roundw
        case rel =>
          refine ⟨k + 1, o ++ [s[k]], false, by omega, by go_num, rfl, by rw [hlen], by rw [hlen]; omega, ?_, ?_, ?_, HC'.out⟩
          · exact (hb.alloc hgs' _).grown hgrow1 (by simp; omega) (fun k h => by injection h with h; omega)
          · have := hgrow1.size; simp at this; omega
          · rw [hlen, ec.out]; exact hown1
        case measure => simp [intOf]; omega
    · have hc := hcol.out
      rw [List.drop_eq_nil_of_le (by rw [hL.out]; omega)] at hc
      have hc2 : col false s.data.toList = o := by rw [hc]; simp [col]
      have hback := own_back (P := Tryz.prog) wr w.heap.size 44 9 5 w.heap.size o.length s.size o Tryz.underlying44 Tryz.underlying5 Tryz.underlying9 hown
      have HC2 : Hid (_ = _) := hc2
      clear hc hc2 hcol hown
      go_wp2
      go_ret
      exact ⟨ret_str (by rw [HC2.out]), hb⟩
end Go.Proofs.YtkecaeceeldcaaaGreatDoor
