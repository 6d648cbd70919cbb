import Derived.Test.YtcngdlaaadijpaaLdLines
import Derived.Test.YtcngdlaaadijpaaLdFoldM
import Derived.Test.YtcngdlaaadijpaaAtBuild
namespace Go.Proofs.Ytcngdlaaadijpaa
open Go.RowKit
open LdMath

def szOf : Value → Nat
  | .string s => s.size
  | _ => 0

set_option maxRecDepth 100000 in
set_option maxHeartbeats 2000000 in
theorem writeFolded_any (B b : Nat) (l t : List UInt8) (k : Nat) (w : World) (hI : IsB B b l w) (hBw : B ≤ w.heap.size) (hk : 2 ≤ k) (hk2 : k ≤ 9223372036854775807) (hl : l.length ≤ 268435456) (ht : t.length ≤ 1048576) :
    Calls Try.prog 13 #[.pointer (some ⟨b, 0, none⟩), .string (S t), .int .i64 (k : Int)] w fun e w' => e = .returned (.tuple #[]) ∧ IsB B b (l ++ fld k t) w' ∧ Below B w w' := by
  obtain ⟨n, hn⟩ : ∃ n, t.length = n := ⟨_, rfl⟩
  obtain ⟨T, hT⟩ : ∃ T, S t = T := ⟨_, rfl⟩
  have hTs : T.size = n := by rw [← hT, S_size, hn]
  obtain ⟨e, he⟩ : ∃ e, min k n = e := ⟨_, rfl⟩
  have m1 : min (k : Int) (n : Int) = (e : Int) := by omega
  have e0 : (0 : Int) ≤ (e : Int) := Int.natCast_nonneg _
  have e1 : (e : Int) ≤ (n : Int) := by omega
  have htd : T.data.toList = t := by rw [← hT, S_l]
  have hx1 : (T.extract 0 e).data.toList = rf k t e := by rw [take_l, htd, rf_front k t e (by omega) (by omega)]
  have hx1s : (T.extract 0 e).size = e := by rw [← size_l, hx1, rf_front k t e (by omega) (by omega), List.length_take]; omega
  have hws : Hid (Calls Try.prog 21 #[.pointer (some ⟨b, 0, none⟩), .string (T.extract 0 e)] w fun r w' => r = .returned (.tuple #[.int .i64 ((T.extract 0 e).size : Int), .nilIface]) ∧ IsB B b (l ++ rf k t e) w' ∧ Below B w w') := by
    have := writeString_any B b l (T.extract 0 e) w hI (by omega) hBw
    rw [hx1] at this
    exact this
  have hx2 : T.extract e n = S (t.drop e) := by refine S_eq _ _ ?_; rw [← hTs, drop_l, htd]
  have hP0 : Hid (e ≤ n ∧ (e = n ∨ (k ≤ e ∧ (e - k) % (k - 1) = 0))) := by
    refine ⟨by omega, ?_⟩
    by_cases h : n ≤ k
    · exact .inl (by omega)
    · have : e = k := by omega
      subst this
      exact .inr ⟨Nat.le_refl _, by simp⟩
  have hkk : wrap64 ((k : Int) - 1) = ((k - 1 : Nat) : Int) := by unfold wrap64; omega
  obtain ⟨j, hj⟩ : ∃ j, k - 1 = j := ⟨_, rfl⟩
  rw [hj] at hkk
  have hkk2 : (k : Int) - 1 = (j : Int) := by omega
  have hH : Hid (t.length = n ∧ n ≤ 1048576 ∧ 2 ≤ k ∧ k - 1 = j ∧ l.length ≤ 268435456 ∧ B ≤ w.heap.size) := ⟨hn, by omega, hk, hj, hl, hBw⟩
  rw [hT]
  rw [hx1s] at hws
  clear hI hBw hk hl ht hn hT he htd hx1 hx1s hj
  go_enter Try.func13, Try.ntmps13
  go_wp2_with (go_at_call 21; refine hws.out.mono ?_; rintro r w1 ⟨rfl, hI1, hb1⟩)
  have hI1' : Hid (IsB B b (l ++ rf k t e) w1) := hI1
  have hb1' : Hid (Below B w w1) := hb1
  clear hI1 hb1 hws m1 e0 e1
  first | rw [hx2] | skip
  go_loopw [7] (fun rv wr => ∃ p : Nat, Hid (p ≤ n ∧ (p = n ∨ (k ≤ p ∧ (p - k) % (k - 1) = 0))) ∧ rv = .string (S (t.drop p)) ∧ Hid (IsB B b (l ++ rf k t p) wr) ∧ Hid (Below B w wr)) (fun rv _ => szOf rv)
  case atStart => exact ⟨e, hP0, rfl, hI1', hb1'⟩
  case round =>
    obtain ⟨p, hp, rfl, hIp, hBp⟩ := hrel
    obtain ⟨h1, h2, h3, h4, h5, h6⟩ := hH.out
    have hbz : B ≤ wr.heap.size := Nat.le_trans h6 hBp.out.size
    have hrl := rf_len k t p
    by_cases hpn : p = n
    · have hre : S (t.drop p) = (⟨#[]⟩ : ByteArray) := by rw [List.drop_of_length_le (by omega)]; rfl
      rw [hre]
      have hwb : Hid (Calls Try.prog 22 #[.pointer (some ⟨b, 0, none⟩), .int .u8 10] wr fun r w' => r = .returned .nilIface ∧ IsB B b (l ++ fld k t) w' ∧ Below B wr w') := by
        have := writeByte_any B b (l ++ rf k t p) 10 wr hIp.out (by rw [List.length_append]; have := hp.out.1; omega) hbz
        unfold fld
        rw [h1, ← hpn, ← List.append_assoc]
        exact this
      clear hp hIp hP0 h1 h2 h3 h4 h5 h6 hbz hrl hI1' hb1' hre hpn
      go_wp2_with (go_at_call 22; refine hwb.out.mono ?_; rintro r w2 ⟨rfl, hI2, hb2⟩)
      go_end0
      exact ⟨rfl, hI2, hBp.out.trans hb2⟩
    · obtain ⟨hpl, hpm⟩ := hp.out
      have hpm2 : k ≤ p ∧ (p - k) % (k - 1) = 0 := hpm.resolve_left hpn
      obtain ⟨m, hm⟩ : ∃ m, n - p = m := ⟨_, rfl⟩
      obtain ⟨q, hq⟩ : ∃ q, min j m = q := ⟨_, rfl⟩
      obtain ⟨R, hR⟩ : ∃ R, S (t.drop p) = R := ⟨_, rfl⟩
      have hRs : R.size = m := by rw [← hR, S_size, List.length_drop]; omega
      have hRd : R.data.toList = t.drop p := by rw [← hR, S_l]
      have hRe : R.toList.isEmpty = false := by
        rw [← hR, toList_S]
        cases hd : t.drop p with
        | nil => have := congrArg List.length hd; rw [List.length_drop] at this; simp at this; omega
        | cons a b => rfl
      have mq : min (j : Int) (m : Int) = (q : Int) := by omega
      have q0 : (0 : Int) ≤ (q : Int) := Int.natCast_nonneg _
      have q1 : (q : Int) ≤ (m : Int) := by omega
      have hx3 : (R.extract 0 q).data.toList = (t.drop p).take q := by rw [take_l, hRd]
      have hx3s : (R.extract 0 q).size = q := by rw [← size_l, hx3, List.length_take, List.length_drop]; omega
      have hx4 : R.extract q m = S (t.drop (p + q)) := by refine S_eq _ _ ?_; rw [← hRs, drop_l, hRd, List.drop_drop]
      have hnx := rf_next k t p h3 hpm2.1 hpm2.2 q (by omega) (by omega) (by omega)
      have hw1 : Hid (Calls Try.prog 21 #[.pointer (some ⟨b, 0, none⟩), .string ⟨#[10, 32]⟩] wr fun r w' => r = .returned (.tuple #[.int .i64 2, .nilIface]) ∧ IsB B b (l ++ rf k t p ++ [10, 32]) w' ∧ Below B wr w') := by
        have := writeString_any B b (l ++ rf k t p) ⟨#[10, 32]⟩ wr hIp.out (by rw [List.length_append, show (⟨#[10, 32]⟩ : ByteArray).size = 2 from rfl]; omega) hbz
        exact this
      have hw2 : ∀ W, IsB B b (l ++ rf k t p ++ [10, 32]) W → B ≤ W.heap.size → Hid (Calls Try.prog 21 #[.pointer (some ⟨b, 0, none⟩), .string (R.extract 0 q)] W fun r w' => r = .returned (.tuple #[.int .i64 (q : Int), .nilIface]) ∧ IsB B b (l ++ rf k t (p + q)) w' ∧ Below B W w') := fun W hW hz => by
        have := writeString_any B b (l ++ rf k t p ++ [10, 32]) (R.extract 0 q) W hW (by rw [List.length_append, List.length_append, hx3s]; simp; omega) hz
        rw [hx3, hx3s] at this
        unfold Hid
        rw [hnx]
        rw [List.append_assoc, List.append_assoc] at this
        exact this
      have hw2' : Hid (∀ W, IsB B b (l ++ rf k t p ++ [10, 32]) W → B ≤ W.heap.size → Hid (Calls Try.prog 21 #[.pointer (some ⟨b, 0, none⟩), .string (R.extract 0 q)] W fun r w' => r = .returned (.tuple #[.int .i64 (q : Int), .nilIface]) ∧ IsB B b (l ++ rf k t (p + q)) w' ∧ Below B W w')) := hw2
      have hpn' : Hid (p + q ≤ n ∧ (p + q = n ∨ (k ≤ p + q ∧ (p + q - k) % (k - 1) = 0))) := by
        refine ⟨by omega, ?_⟩
        by_cases hc : j ≤ m
        · refine .inr ⟨by omega, ?_⟩
          have e1 : p + q - k = (p - k) + (k - 1) := by omega
          rw [e1, Nat.add_mod_right]
          exact hpm2.2
        · exact .inl (by omega)
      have hsz : Hid (szOf (.string (S (t.drop (p + q)))) < R.size) := by
        unfold Hid
        show (S _).size < _
        rw [S_size, List.length_drop, hRs]
        omega
      have hbz' : Hid (B ≤ wr.heap.size) := hbz
      rw [hR]
      clear hp hIp hP0 h1 h2 h3 h4 h5 h6 hbz hrl hI1' hb1' hpn hpl hpm hpm2 hm hq hR hRd hx3 hx3s hnx hw2
      go_wp2_with (go_at_call 21; first | (refine hw1.out.mono ?_; clear hw1; rintro r w2 ⟨rfl, hI2, hb2⟩; have hw3 := hw2'.out w2 hI2 (Nat.le_trans hbz'.out hb2.size)) | (refine hw3.out.mono ?_; rintro r w3 ⟨rfl, hI3, hb3⟩))
      first | rw [hx4] | skip
      go_roundw
      case rel => exact ⟨p + q, hpn', rfl, hI3, hBp.out.trans (hb2.trans hb3)⟩
      case measure => exact hsz.out
end Go.Proofs.Ytcngdlaaadijpaa
