import Derived.Test.YthpfnajgbocpnaaPtCur
namespace Go.Proofs.Ythpfnajgbocpnaa
namespace Pt
open Go.RowKit Go.Sort Go.Lib
open PtMath (Inc setOf cnt)
set_option linter.unusedVariables false
set_option maxRecDepth 100000
open PtT (Rk TB en)
variable {T : PtT.Rk}

theorem drewN_0 (w : World) : w = w.drewN 0 := rfl
set_option maxHeartbeats 1000000 in
theorem isNaN_any (x : ByteArray) (w : World) : Calls Try.prog 52 #[.string x] w fun e w' => e = .returned (.bool false) ∧ ∃ q, w' = w.drewN q := by
  go_enter Try.func52, Try.ntmps52
  go_wp2_with fail
  go_ret
  exact ⟨rfl, 0, rfl⟩
set_option maxHeartbeats 1000000 in
theorem isNaNs_any (x : ByteArray) (w : World) : Calls Try.prog 55 #[.string x] w fun e w' => e = .returned (.bool false) ∧ ∃ q, w' = w.drewN q := by
  go_enter Try.func55, Try.ntmps55
  go_wp2_with fail
  go_ret
  exact ⟨rfl, 0, rfl⟩
set_option maxHeartbeats 1000000 in
theorem cless_any (x y : Nat) (w : World) : Calls Try.prog 38 #[.string (TB T x), .string (TB T y)] w fun e w' => e = .returned (.bool (decide (x < y))) ∧ ∃ q, w' = w.drewN q := by
  have hL := PtT.less T x y
  have hN := isNaN_any (TB T x) w
  generalize decide (x < y) = d at *
  generalize TB T x = X at *
  generalize TB T y = Y at *
  go_enter Try.func38, Try.ntmps38
  go_wp2_with fail
  refine hN.mono ?_
  rintro e w1 ⟨rfl, q, rfl⟩
  cases d
  all_goals
    go_wp2_with fail
    go_ret
    exact ⟨rfl, q, rfl⟩
def SrR (k : Nat) (e : Ending) : Prop := ∃ f, e = .returned (.tuple #[.int .i64 (k : Int), .bool f])
/-- What the library's BinarySearch says of a rising row. -/
abbrev SrchN (T : PtT.Rk) : Prop := ∀ (a : Option Addr) (c : Nat) (l : List Nat) (x : Nat) (w : World), l.length < 4611686018427387904 → NRow T w a l → Inc l →
    Calls Try.prog 53 #[.slice a l.length c, .string (TB T x)] w fun e w' => SrR (cnt l x) e ∧ ∃ q, w' = w.drewN q
theorem mid (i j : Nat) (h : i < j) (hj : j < 4611686018427387904) : wrap64 ((i : Int) + (j : Int)) = ((i + j : Nat) : Int) := by unfold wrap64; omega
set_option maxHeartbeats 4000000 in
theorem srchN : SrchN T := by
  intro a c l x w hl hr hi
  have hA : Hid (l.length < 4611686018427387904 ∧ NRow T w a l ∧ Inc l) := ⟨hl, hr, hi⟩
  obtain ⟨n, hn⟩ : ∃ n, l.length = n := ⟨_, rfl⟩
  rw [hn]
  have hnn : Hid (l.length = n) := hn
  have nb : (n : Int) < 4611686018427387904 := by omega
  clear hl hr hi hn
  go_enter Try.func53, Try.ntmps53
  go_wp2_with fail
  go_loopw [7, 8] (fun iv jv wr => ∃ i j : Nat, i ≤ j ∧ j ≤ n ∧ iv = .int .i64 (i : Int) ∧ jv = .int .i64 (j : Int) ∧ Hid ((∀ k (h : k < l.length), k < i → l[k] < x) ∧ (∀ k (h : k < l.length), j ≤ k → x ≤ l[k])) ∧ Hid (∃ q, wr = w.drewN q)) (fun iv jv _ => (intOf jv).toNat - (intOf iv).toNat)
  case atStart => exact ⟨0, n, Nat.zero_le _, Nat.le_refl _, rfl, rfl, ⟨fun k h hk => by omega, fun k h hk => by have := hnn.out; omega⟩, ⟨0, rfl⟩⟩
  case round =>
    obtain ⟨i, j, hij, hjn, rfl, rfl, hM, hq⟩ := hrel
    have i0 : (0 : Int) ≤ (i : Int) := Int.natCast_nonneg _
    have j0 : (0 : Int) ≤ (j : Int) := Int.natCast_nonneg _
    have j1 : (j : Int) ≤ (n : Int) := Int.ofNat_le.2 hjn
    by_cases hlt : i < j
    · have i1 : (i : Int) < (j : Int) := Int.ofNat_lt.2 hlt
      obtain ⟨m, hm⟩ : ∃ m, (i + j) / 2 = m := ⟨_, rfl⟩
      have hm' : ((i : Int) + (j : Int)) / 2 = (m : Int) := by omega
      have him : i ≤ m ∧ m < j := by omega
      have m0 : (0 : Int) ≤ (m : Int) := Int.natCast_nonneg _
      have m1 : (m : Int) < (n : Int) := by omega
      have hml : m < l.length := by have := hnn.out; omega
      obtain ⟨b, off, rfl, c1⟩ := hA.out.2.1 m hml
      obtain ⟨q, rfl⟩ := hq.out
      have c2 : (w.drewN q).cell? ⟨b, off + m, none⟩ = some (.string (TB T l[m])) := c1
      have hC := cless_any (T := T) l[m] x (w.drewN q)
      have hI : Hid (i ≤ m ∧ m < j ∧ j ≤ n) := ⟨him.1, him.2, hjn⟩
      by_cases hx : l[m] < x
      · have hN : Hid ((∀ k (h : k < l.length), k < m + 1 → l[k] < x) ∧ (∀ k (h : k < l.length), j ≤ k → x ≤ l[k])) := ⟨fun k h hk => by
          by_cases e : k = m
          · subst e; exact hx
          · have := List.pairwise_iff_getElem.1 hA.out.2.2 k m h hml (by omega)
            omega, hM.out.2⟩
        rw [decide_eq_true hx] at hC
        clear hx hM hq c1
        generalize TB T l[m] = X at *
        clear hml hm him hlt hij hjn
        go_wp2_with fail
        refine hC.mono ?_
        rintro e w1 ⟨rfl, q1, rfl⟩
        clear hC c2
        go_wp2_with fail
        refine ⟨⟨m + 1, j, by have := hI.out; omega, hI.out.2.2, by simp, rfl, hN, ⟨q + q1, rfl⟩⟩, ?_⟩
        have := hI.out
        simp [intOf]
        omega
      · have hN : Hid ((∀ k (h : k < l.length), k < i → l[k] < x) ∧ (∀ k (h : k < l.length), m ≤ k → x ≤ l[k])) := ⟨hM.out.1, fun k h hk => by
          by_cases e : k = m
          · subst e; omega
          · have := List.pairwise_iff_getElem.1 hA.out.2.2 m k hml h (by omega)
            omega⟩
        rw [decide_eq_false hx] at hC
        clear hx hM hq c1
        generalize TB T l[m] = X at *
        clear hml hm him hlt hij hjn
        go_wp2_with fail
        refine hC.mono ?_
        rintro e w1 ⟨rfl, q1, rfl⟩
        clear hC c2
        go_wp2_with fail
        refine ⟨⟨i, m, hI.out.1, by have := hI.out; omega, rfl, rfl, hN, ⟨q + q1, rfl⟩⟩, ?_⟩
        have := hI.out
        simp [intOf]
        omega
    · have i1 : ¬ (i : Int) < (j : Int) := by omega
      have hie : i = j := by omega
      subst hie
      have hcnt : Hid (cnt l x = i) := PtMath.cnt_at l x i (by have := hnn.out; omega) (fun k h hk => hM.out.1 k h hk) hA.out.2.2 (fun h => hM.out.2 i h (Nat.le_refl _))
      obtain ⟨q, rfl⟩ := hq.out
      by_cases hin : i < n
      · have i2 : (i : Int) < (n : Int) := Int.ofNat_lt.2 hin
        have hml : i < l.length := by have := hnn.out; omega
        obtain ⟨b, off, rfl, c1⟩ := hA.out.2.1 i hml
        have c2 : (w.drewN q).cell? ⟨b, off + i, none⟩ = some (.string (TB T l[i])) := c1
        have hN : Hid (∀ W, Calls Try.prog 55 #[.string (TB T l[i])] W fun e w' => e = .returned (.bool false) ∧ ∃ q, w' = W.drewN q) := fun W => isNaNs_any (TB T l[i]) W
        clear hM hq c1 hlt hij hjn hin
        by_cases hxy : l[i] = x
        · rw [hxy] at c2
          clear hN hxy hml
          generalize TB T x = Y at *
          go_wp2_with fail
          go_ret2
          exact ⟨⟨true, by rw [hcnt.out]; rfl⟩, q, rfl⟩
        · have hb : ((TB T l[i]).toList == (TB T x).toList) = false := by
            unfold TB
            rw [Lib.toList_data, Lib.toList_data, S_l, S_l, beq_eq_false_iff_ne]
            exact fun e => hxy (PtT.inj T e)
          clear hxy
          generalize TB T l[i] = X at *
          generalize TB T x = Y at *
          clear hml
          go_wp2_with fail
          refine (hN.out _).mono ?_
          rintro e w1 ⟨rfl, q1, rfl⟩
          clear hN c2
          go_wp2_with fail
          go_ret2
          exact ⟨⟨false, by rw [hcnt.out]; rfl⟩, q + q1, rfl⟩
      · have i2 : ¬ (i : Int) < (n : Int) := by omega
        clear hM hq hlt hij hjn hin
        go_wp2_with fail
        go_ret2
        exact ⟨⟨false, by rw [hcnt.out]; rfl⟩, q, rfl⟩
end Pt
end Go.Proofs.Ythpfnajgbocpnaa
