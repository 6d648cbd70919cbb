import Derived.Test.YtilglidhlcmfbaaDoorTrim
import Derived.Test.YtilglidhlcmfbaaDoorRefFold
namespace Go.Proofs.YtilglidhlcmfbaaDoor
open Go.RowKit
open TextMath (fold lo col bl trimP trimS squeeze normal)

theorem bl_eq2 (c : UInt8) : bl c = (((c.toNat : Int) == 32) || decide ((9 : Int) ≤ c.toNat) && decide ((c.toNat : Int) ≤ 13)) := by
  rw [bl_eq, Bool.or_comm]

set_option maxHeartbeats 400000 in
theorem rBlank_any (c : UInt8) (w : World) :
    Calls Tryd.prog 37 #[.int .u8 (c.toNat : Int)] w fun e w' => e = .returned (.bool (bl c)) ∧ w = w' := by
  have hc256 : c.toNat < 256 := c.toNat_lt
  rw [bl_eq2]
  generalize c.toNat = n at *
  by_cases h0 : ((n : Int) == 32) = true
  · go_enter Tryd.func37, Tryd.ntmps37
    go_wp2
    go_ret
    exact ⟨ret_bool (by simp [h0]), rfl⟩
  · have h0' : ((n : Int) == 32) = false := by simpa using h0
    clear h0
    by_cases h1 : (9 : Int) ≤ n
    · by_cases h2 : (n : Int) ≤ 13
      · go_enter Tryd.func37, Tryd.ntmps37
        go_wp2
        go_ret
        exact ⟨ret_bool (by simp [h1, h2]), rfl⟩
      · have d2 : decide ((n : Int) ≤ 13) = false := by simpa using h2
        go_enter Tryd.func37, Tryd.ntmps37
        go_wp2
        go_ret
        exact ⟨ret_bool (by simp), rfl⟩
    · have d1 : decide ((9 : Int) ≤ n) = false := by simpa using h1
      go_enter Tryd.func37, Tryd.ntmps37
      go_wp2
      go_ret
      exact ⟨ret_bool (by simp), rfl⟩

/-- Is the byte ahead of place k a blank? -/
def ran (l : List UInt8) (k : Nat) : Bool := decide (0 < k) && bl (l.getD (k - 1) 0)
theorem ran_zero (l : List UInt8) : ran l 0 = false := rfl
theorem ran_succ (l : List UInt8) (k : Nat) (h : k < l.length) : ran l (k + 1) = bl l[k] := by
  unfold ran; simp [List.getD, List.getElem?_eq_getElem h]
theorem ran_pos (s : ByteArray) (k : Nat) (h : k - 1 < s.size) (hp : 0 < k) : ran s.data.toList k = bl s[k - 1] := by
  unfold ran; rw [getD_s s (k - 1) h]; simp [hp]

set_option maxHeartbeats 1000000 in
theorem rCollapse_any (s : ByteArray) (w : World) (hm : s.size ≤ 140737488355328) :
    Calls Tryd.prog 18 #[.string s] w fun e w' => e = .returned (.string (S (col false s.data.toList))) ∧ Below w.heap.size w w' := by
  have hL : Hid (s.data.toList.length = s.size) := size_l s
  obtain ⟨i0, hi, hz0, hz1, hz2⟩ := info_parts info_u8
  go_enter Tryd.func18, Tryd.ntmps18
  go_wp2
  go_loopw [3, 4] (fun out i wr => ∃ (k : Nat) (o : List UInt8), k ≤ s.size ∧ i = .int .i64 k ∧ o.length ≤ k ∧ Below w.heap.size w wr ∧ wr.ownsRow w.heap.size 5 1 out o.length (bv o) ∧ Hid (col false s.data.toList = o ++ col (ran s.data.toList k) (s.data.toList.drop k))) (fun _ i _ => s.size - (intOf i).toNat)
  case atStart => exact ⟨0, [], Nat.zero_le _, rfl, Nat.zero_le _, Below.refl _ _, World.ownsRow_nil _ _ _ _, by unfold Hid; simp [ran_zero]⟩
  case round =>
    obtain ⟨k, o, hk, rfl, ho, hb, hown, hcol⟩ := hrel
    have hgs' := hb.size
    by_cases hlt : k < s.size
    · have hkl : k < s.data.toList.length := by rw [hL.out]; exact hlt
      have hget : s.data.toList[k] = s[k] := rfl
      have e32 : Hid (bv (o ++ [32]) = bv o ++ [.int .u8 32]) := by unfold Hid; rw [bv_app]; rfl
      have ec : Hid (bv (o ++ [s[k]]) = bv o ++ [.int .u8 (s[k].toNat : Int)]) := by unfold Hid; rw [bv_app]; rfl
      have hlen : ∀ c : UInt8, (o ++ [c]).length = o.length + 1 := by intro c; simp
      have hrs := ran_succ _ k hkl
      rw [hget] at hrs
      by_cases hbl : bl s[k] = true
      · rw [hbl] at hrs
        cases hr : ran s.data.toList k
        · rw [hr] at hcol
          have HC := col_space _ o k hkl hcol.out hbl
          rw [← hrs] at HC
          have HC' : Hid (_ = _) := HC
          clear HC hcol hrs
          by_cases hk0 : k = 0
          · subst hk0
            clear hr
            go_wp2_with (first | (go_at_call 37; refine (rBlank_any _ _).mono ?_; rintro e w' ⟨rfl, rfl⟩; rw [hbl]) | (at_builtin; refine wpList_append_own _ rfl _ _ 29 rfl w.heap.size 5 i0 (.int .u8 0) 1 1 Tryd.underlying29 hi hz0 hz1 hz2 rfl (by decide) _ _ _ rfl (hown.alloc _) ⟨wr.heap.size, 0, none⟩ 1 1 [.int .u8 32] rfl rfl ?_ ?_ ?_ ?_ ?_ ?_; exact cell_one_new _ _ _; (intro u hu; simp at hu; subst hu; rfl); (unfold maxLen; omega); omega; (simp; omega); intro v1 w1 hown1 hgrow1 _))
            go_roundw
            case rel =>
              refine ⟨0 + 1, o ++ [32], by omega, by go_num, by rw [hlen]; omega, ?_, ?_, HC'.out⟩
              · exact (hb.alloc hgs' _).grown hgrow1 (by simp; omega) (fun j h => (hown.lt j h).1)
              · rw [hlen, e32.out]; exact hown1
            case measure => simp [intOf]; omega
          · have hz : (((k : Nat) : Int) == 0) = false := by simp; omega
            have hp : (0 : Int) < k := by omega
            have hprev : bl s[k - 1] = false := by rw [← ran_pos s k (by omega) (by omega)]; exact hr
            have hidx : ((k : Int) - 1).toNat = k - 1 := by omega
            clear hr
            go_wp2_with (first | (go_at_call 37; refine (rBlank_any _ _).mono ?_; rintro e w' ⟨rfl, rfl⟩; first | rw [hbl] | rw [hprev]) | (at_builtin; refine wpList_append_own _ rfl _ _ 29 rfl w.heap.size 5 i0 (.int .u8 0) 1 1 Tryd.underlying29 hi hz0 hz1 hz2 rfl (by decide) _ _ _ rfl (hown.alloc _) ⟨wr.heap.size, 0, none⟩ 1 1 [.int .u8 32] rfl rfl ?_ ?_ ?_ ?_ ?_ ?_; exact cell_one_new _ _ _; (intro u hu; simp at hu; subst hu; rfl); (unfold maxLen; omega); omega; (simp; omega); intro v1 w1 hown1 hgrow1 _))
            go_roundw
            case rel =>
              refine ⟨k + 1, o ++ [32], by omega, by go_num, by rw [hlen]; omega, ?_, ?_, HC'.out⟩
              · exact (hb.alloc hgs' _).grown hgrow1 (by simp; omega) (fun j h => (hown.lt j h).1)
              · rw [hlen, e32.out]; exact hown1
            case measure => simp [intOf]; omega
        · rw [hr] at hcol
          have HC := col_skip _ o k hkl hcol.out hbl
          rw [← hrs] at HC
          have HC' : Hid (_ = _) := HC
          clear HC hcol hrs
          have hk0 : 0 < k := by
            by_cases h : k = 0
            · subst h; rw [ran_zero] at hr; cases hr
            · omega
          have hz : (((k : Nat) : Int) == 0) = false := by simp; omega
          have hp : (0 : Int) < k := by omega
          have hprev : bl s[k - 1] = true := by rw [← ran_pos s k (by omega) (by omega)]; exact hr
          have hidx : ((k : Int) - 1).toNat = k - 1 := by omega
          clear hr
          go_wp2_with (go_at_call 37; refine (rBlank_any _ _).mono ?_; rintro e w' ⟨rfl, rfl⟩; first | rw [hbl] | rw [hprev])
          go_roundw
          case rel => exact ⟨k + 1, o, by omega, by go_num, by omega, hb, hown, HC'.out⟩
          case measure => simp [intOf]; omega
      · have hbl' : bl s[k] = false := by simpa using hbl
        rw [hbl'] at hrs
        have HC : col false s.data.toList = (o ++ [s[k]]) ++ col (ran s.data.toList (k + 1)) (s.data.toList.drop (k + 1)) := by rw [hrs]; exact col_keep _ o k hkl _ hcol.out hbl'
        have HC' : Hid (_ = _) := HC
        clear HC hcol hbl hrs
        go_wp2_with (first | (go_at_call 37; refine (rBlank_any _ _).mono ?_; rintro e w' ⟨rfl, rfl⟩; rw [hbl']) | (at_builtin; refine wpList_append_own _ rfl _ _ 29 rfl w.heap.size 5 i0 (.int .u8 0) 1 1 Tryd.underlying29 hi hz0 hz1 hz2 rfl (by decide) _ _ _ rfl (hown.alloc _) ⟨wr.heap.size, 0, none⟩ 1 1 [.int .u8 (s[k].toNat : Int)] rfl rfl ?_ ?_ ?_ ?_ ?_ ?_; exact cell_one_new _ _ _; (intro u hu; simp at hu; subst hu; rfl); (unfold maxLen; omega); omega; (simp; omega); intro v1 w1 hown1 hgrow1 _))
        go_roundw
        case rel =>
          refine ⟨k + 1, o ++ [s[k]], by omega, by go_num, by rw [hlen]; omega, ?_, ?_, HC'.out⟩
          · exact (hb.alloc hgs' _).grown hgrow1 (by simp; omega) (fun j h => (hown.lt j h).1)
          · rw [hlen, ec.out]; exact hown1
        case measure => simp [intOf]; omega
    · have hc := hcol.out
      rw [List.drop_eq_nil_of_le (by rw [hL.out]; omega)] at hc
      have hc2 : col false s.data.toList = o := by rw [hc]; simp [col]
      have hback := own_back_any (P := Tryd.prog) wr w.heap.size 29 9 5 _ _ _ Tryd.underlying29 Tryd.underlying5 Tryd.underlying9 hown
      have HC2 : Hid (_ = _) := hc2
      clear hc hc2 hcol hown
      go_wp2
      go_ret
      exact ⟨ret_str (by rw [HC2.out]), hb⟩
end Go.Proofs.YtilglidhlcmfbaaDoor
