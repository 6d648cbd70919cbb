import Derived.Test.YtilglidhlcmfbaaDoorRefHex2
import Derived.Test.YtilglidhlcmfbaaDoorUnhexLoop
namespace Go.Proofs.YtilglidhlcmfbaaDoor
open Go.RowKit
open TextMath (dg hex wo unhex pre fold lo)

theorem pos_all : ∀ n : Fin 256, pos DIG.data.toList (lo (UInt8.ofNat n.val)) = (match wo (UInt8.ofNat n.val) with | some x => (x : Int) | none => -1) := by decide +kernel
theorem pos_dig (c : UInt8) : pos DIG.data.toList (lo c) = (match wo c with | some x => (x : Int) | none => -1) := by
  have := pos_all ⟨c.toNat, c.toNat_lt⟩
  simpa using this

set_option maxHeartbeats 1000000 in
theorem rUnhex_any (s : ByteArray) (w : World) (hm : s.size ≤ 4194304) :
    Calls Tryd.prog 41 #[.string s] w fun e w' => e = .returned (uhV s.size (unhex s.data.toList 0)) ∧ Below w.heap.size w w' := by
  have hL : Hid (s.data.toList.length = s.size) := size_l s
  obtain ⟨i0, hi, hz0, hz1, hz2⟩ := info_parts info_u8
  have hcall : Hid (Calls Tryd.prog 16 #[.string s] w fun e w' => e = .returned (.string (S (fold s.data.toList))) ∧ Below w.heap.size w w') := rFold_any s w (by omega)
  have hTs : (S (fold s.data.toList)).size = s.size := by rw [S_size, fold_len, size_l]
  have hTg : Hid (∀ k (h : k < (S (fold s.data.toList)).size) (h' : k < s.size), (S (fold s.data.toList))[k] = lo s[k]) := by
    intro k h h'
    have h2 : k < (fold s.data.toList).length := by rw [S_size] at h; exact h
    show (fold s.data.toList).toArray[k] = _
    simp [fold]
    rfl
  have hat : ∀ (c : UInt8) (W : World), Hid (Calls Tryd.prog 49 #[.string DIG, .int .u8 ((lo c).toNat : Int)] W fun e w' => e = .returned (.int .i64 (match wo c with | some x => (x : Int) | none => -1)) ∧ W = w') := fun c W => by
    have h := at_any DIG (lo c) W (by decide)
    rw [pos_dig] at h; exact h
  unfold DIG at hat
  generalize S (fold s.data.toList) = T at *
  have HT : Hid (T.size = s.size) := hTs
  have hT1 : T.size ≤ s.size := by omega
  have hT2 : s.size ≤ T.size := by omega
  clear hTs
  go_enter Tryd.func41, Tryd.ntmps41
  go_wp2_with (go_at_call 16; refine hcall.out.mono ?_; rintro e w1 ⟨rfl, hb1⟩)
  go_loopw [6, 7, 8] (fun out high i wr => ∃ (k x : Nat) (o : List UInt8), k ≤ s.size ∧ i = .int .i64 k ∧ x < 16 ∧ high = .int .i64 (x : Int) ∧ Below w.heap.size w wr ∧ wr.ownsRow w.heap.size 5 1 out (k / 2) (bv o)
      ∧ Hid (unhex s.data.toList 0 = pre o (unhex (s.data.toList.drop (k - k % 2)) (k - k % 2))) ∧ Hid (∀ (h : k - 1 < s.data.toList.length), k % 2 = 1 → wo s.data.toList[k - 1] = some x)) (fun _ _ i _ => s.size - (intOf i).toNat)
  case atStart => exact ⟨0, 0, [], Nat.zero_le _, rfl, by omega, rfl, hb1, World.ownsRow_nil _ _ _ _, by unfold Hid; simp [TextMath.pre_nil], fun _ h => by omega⟩
  case round =>
    obtain ⟨k, x, o, hk, rfl, hx16, rfl, hb, hown, hun, hwx⟩ := hrel
    have hgs' := hb.size
    by_cases hlt : k < s.size
    · have hkl : k < s.data.toList.length := by rw [hL.out]; exact hlt
      have hkT : k < T.size := by omega
      have hTk := hTg.out k hkT hlt
      have hcat := hat s[k]
      cases hw : wo s[k] with
      | none =>
        have hres : Hid (unhex s.data.toList 0 = .error k) := by
          rcases Nat.mod_two_eq_zero_or_one k with h0 | h1
          · exact st_bad0 _ k o hkl h0 hun.out hw
          · exact st_bad1 _ k o hkl h1 hun.out x (hwx.out (by omega) h1) hw
        rw [hw] at hcat
        clear hw hun hwx hown hat
        have HTk : Hid (T[k] = lo s[k]) := hTk
        clear hTk
        go_wp2_with (go_at_call 49; rw [HTk.out]; refine (hcat _).out.mono ?_; rintro e w' ⟨rfl, rfl⟩)
        go_ret3
        exact ⟨ret_tup (by rw [hres.out]; rfl), hb⟩
      | some y =>
        have hy16 := TextMath.wo_lt _ _ hw
        rw [hw] at hcat
        have HTk : Hid (T[k] = lo s[k]) := hTk
        clear hTk hat
        rcases Nat.mod_two_eq_zero_or_one k with h0 | h1
        · have HU : Hid (_ = _) := st_even _ k o h0 hun.out
          have hh : (((k : Nat) : Int) % 2 == 0) = true := by simp; omega
          have hk2 : (k + 1) / 2 = k / 2 := by omega
          have HX : Hid (∀ (h : k + 1 - 1 < s.data.toList.length), (k + 1) % 2 = 1 → wo s.data.toList[k + 1 - 1] = some y) := fun _ _ => hw
          clear hw hun hwx
          go_wp2_with (go_at_call 49; rw [HTk.out]; refine (hcat _).out.mono ?_; rintro e w' ⟨rfl, rfl⟩)
          go_roundw
          case rel => exact ⟨k + 1, y, o, by omega, by go_num, hy16, rfl, hb, by rw [hk2]; exact hown, HU, HX⟩
          case measure => simp [intOf]; omega
        · have HU : Hid (_ = _) := st_pair _ k o hkl h1 hun.out x y (hwx.out (by omega) h1) hw
          have hh : (((k : Nat) : Int) % 2 == 0) = false := by simp; omega
          have hk2 : (k + 1) / 2 = k / 2 + 1 := by omega
          have hnew : Hid (bv (o ++ [UInt8.ofNat (16 * x + y)]) = bv o ++ [.int .u8 (16 * (x : Int) + (y : Int))]) := by
            unfold Hid; rw [bv_app]; congr 1
            show [Value.int .u8 ((UInt8.ofNat (16 * x + y)).toNat : Int)] = _
            rw [UInt8.toNat_ofNat', Nat.mod_eq_of_lt (by omega)]; simp
          have HX : Hid (∀ (h : k + 1 - 1 < s.data.toList.length), (k + 1) % 2 = 1 → wo s.data.toList[k + 1 - 1] = some x) := fun _ h => by omega
          clear hw hun hwx
          go_wp2_with (first | (go_at_call 49; rw [HTk.out]; refine (hcat _).out.mono ?_; rintro e w' ⟨rfl, rfl⟩) | (at_builtin; refine wpList_append_own _ rfl _ _ 29 rfl w.heap.size 5 i0 (.int .u8 0) 1 1 Tryd.underlying29 hi hz0 hz1 hz2 rfl (by decide) _ _ _ rfl (hown.alloc _) ⟨wr.heap.size, 0, none⟩ 1 1 [.int .u8 (16 * (x : Int) + (y : Int))] rfl rfl ?_ ?_ ?_ ?_ ?_ ?_; exact cell_one_new _ _ _; (intro u hu; simp at hu; subst hu; rfl); (unfold maxLen; omega); omega; (simp; omega); intro v1 w1 hown1 hgrow1 _))
          go_roundw
          case rel =>
            refine ⟨k + 1, x, o ++ [UInt8.ofNat (16 * x + y)], by omega, by go_num, hx16, rfl, ?_, ?_, HU, HX⟩
            · exact (hb.alloc hgs' _).grown hgrow1 (by simp; omega) (fun j h => (hown.lt j h).1)
            · rw [hk2, hnew.out]; exact hown1
          case measure => simp [intOf]; omega
    · have hke : k = s.size := by omega
      rcases Nat.mod_two_eq_zero_or_one k with h0 | h1
      · have HR : Hid (unhex s.data.toList 0 = .ok o) := st_end0 _ k o (by rw [hL.out]; exact hke) h0 hun.out
        have hback := own_back_any (P := Tryd.prog) wr w.heap.size 29 9 5 _ _ _ Tryd.underlying29 Tryd.underlying5 Tryd.underlying9 hown
        have hkT : ¬ k < T.size := by omega
        have hh : (((T.size : Nat) : Int) % 2 != 0) = false := by simp; omega
        clear hown hun hwx hke
        go_wp2
        go_ret3
        exact ⟨ret_tup (by rw [HR.out]; unfold uhV; rw [HT.out]; rfl), hb⟩
      · have HR : Hid (unhex s.data.toList 0 = .error k) := st_end1 _ k o (by rw [hL.out]; exact hke) h1 hun.out x (hwx.out (by rw [hL.out]; omega) h1)
        have hkT : ¬ k < T.size := by omega
        have HK : Hid (k = s.size) := hke
        have hh : (((T.size : Nat) : Int) % 2 != 0) = true := by rw [bne_iff_ne]; omega
        clear hown hun hwx hke
        go_wp2
        go_ret3
        exact ⟨ret_tup (by rw [HR.out]; unfold uhV; rw [HK.out, ← HT.out]; rfl), hb⟩

set_option maxHeartbeats 1000000 in
theorem unhexes_any (s : ByteArray) (w : World) (hm : s.size ≤ 4194304) :
    Calls Tryd.prog 25 #[.string s] w fun e w' => e = .returned (.bool true) ∧ Below w.heap.size w w' := by
  have HB := Below.refl w.heap.size w
  cases hu : unhex s.data.toList 0 with
  | ok t =>
    have U : Hid (uhV s.size (unhex s.data.toList 0) = .tuple #[.string (S t), .int .i64 0, .int .i64 (s.size : Nat)]) := by unfold Hid; rw [hu]; rfl
    clear hu
    go_enter Tryd.func25, Tryd.ntmps25
    go_wp2_with (first
      | (go_at_call 40; refine (unhex_any _ _ ?_).mono ?_; (omega); rintro e w1 ⟨rfl, hb1⟩; replace HB := HB.trans (hb1.mono HB.size); clear hb1; rw [U.out])
      | (go_at_call 41; refine (rUnhex_any _ _ ?_).mono ?_; (omega); rintro e w1 ⟨rfl, hb1⟩; replace HB := HB.trans (hb1.mono HB.size); clear hb1; rw [U.out])
      | go_in)
    go_ret
    exact ⟨rfl, HB⟩
  | error p =>
    have U : Hid (uhV s.size (unhex s.data.toList 0) = .tuple #[.string ⟨#[]⟩, .int .i64 11, .int .i64 (p : Nat)]) := by unfold Hid; rw [hu]; rfl
    clear hu
    go_enter Tryd.func25, Tryd.ntmps25
    go_wp2_with (first
      | (go_at_call 40; refine (unhex_any _ _ ?_).mono ?_; (omega); rintro e w1 ⟨rfl, hb1⟩; replace HB := HB.trans (hb1.mono HB.size); clear hb1; rw [U.out])
      | (go_at_call 41; refine (rUnhex_any _ _ ?_).mono ?_; (omega); rintro e w1 ⟨rfl, hb1⟩; replace HB := HB.trans (hb1.mono HB.size); clear hb1; rw [U.out])
      | go_in)
    go_ret
    exact ⟨rfl, HB⟩
end Go.Proofs.YtilglidhlcmfbaaDoor
