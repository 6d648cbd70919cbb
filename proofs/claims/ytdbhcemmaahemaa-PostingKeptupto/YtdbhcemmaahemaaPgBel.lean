import Derived.Test.YtdbhcemmaahemaaPgCur
namespace Go.Proofs.Ytdbhcemmaahemaa
open Go.RowKit Go.Sort Go.Lib
open PgMath (Inc setOf cnt)
set_option linter.unusedVariables false
set_option maxRecDepth 100000

/-- What the library's BinarySearch says of a rising row. -/
abbrev SrchC : Prop := ∀ (b off n c : Nat) (zs : List Int) (x : Int) (w : World), n ≤ zs.length → n < 4611686018427387904 → (∀ j, j < zs.length → w.cell? ⟨b, off + j, none⟩ = some (.int .i64 (zs.getD j 0))) → (zs.take n).Pairwise (· ≤ ·) →
    Calls Try.prog 100 #[.slice (some ⟨b, off, none⟩) n c, .int .i64 x] w fun e w' => e = .returned (.tuple #[.int .i64 ((zs.take n).countP (· < x) : Nat), .bool ((zs.take n).contains x)]) ∧ ∃ q, w' = w.drewN q
/-- The same of any row, a slice of no element among them. -/
abbrev SrchN : Prop := ∀ (a : Option Addr) (c : Nat) (l : List Int) (x : Int) (w : World), l.length < 4611686018427387904 → NRow w a l → Inc l →
    Calls Try.prog 100 #[.slice a l.length c, .int .i64 x] w fun e w' => e = .returned (.tuple #[.int .i64 (cnt l x : Int), .bool (l.contains x)]) ∧ ∃ q, w' = w.drewN q
set_option maxRecDepth 100000 in
set_option maxHeartbeats 1000000 in
theorem search_zero (a : Option Addr) (c : Nat) (x : Int) (w : World) :
    Calls Try.prog 100 #[.slice a 0 c, .int .i64 x] w fun e w' => e = .returned (.tuple #[.int .i64 0, .bool false]) ∧ ∃ q, w' = w.drewN q := by
  go_enter Try.func100, Try.ntmps100
  go_wp2_with fail
  go_loopw [7, 8] (fun iv jv wr => iv = .int .i64 0 ∧ jv = .int .i64 0 ∧ wr = w) (fun _ _ _ => 0)
  case atStart => exact ⟨rfl, rfl, rfl⟩
  case round =>
    obtain ⟨rfl, rfl, rfl⟩ := hrel
    go_wp2_with fail
    go_ret2
    exact ⟨rfl, 0, rfl⟩
theorem search_any (hS : SrchC) : SrchN := by
  intro a c l x w hl hr hi
  by_cases h0 : l.length = 0
  · have e := List.eq_nil_of_length_eq_zero h0
    subst e
    exact search_zero a c x w
  · obtain ⟨b, off, rfl, _⟩ := hr 0 (by omega)
    refine (hS b off l.length c l x w (Nat.le_refl _) hl (fun j hj => ?_) ?_).mono ?_
    · obtain ⟨b', off', e, h1⟩ := hr j hj
      injection e with e
      injection e with e1 e2
      subst e1 e2
      rw [h1]
      simp [List.getD, List.getElem?_eq_getElem hj]
    · rw [List.take_length]
      exact hi.imp (fun h => Int.le_of_lt h)
    · rintro e w' ⟨rfl, hq⟩
      rw [List.take_length]
      exact ⟨rfl, hq⟩
theorem NRow.take {w : World} {a : Option Addr} {l : List Int} (k : Nat) (h : NRow w a l) : NRow w a (l.take k) := fun i hi => by
  rw [List.length_take] at hi
  obtain ⟨b, off, e, h1⟩ := h i (by omega)
  exact ⟨b, off, e, by rw [List.getElem_take]; exact h1⟩
theorem bel_end (hS : SrchN) (a : Option Addr) (c : Nat) (l : List Int) (x : Int) (w : World) (hl : l.length ≤ 140737488355328) (hc : l.length ≤ c) (hr : NRow w a l) (hi : Inc l) (s t : Nat) (z y : Int) (hz : z = (s : Int)) (hy : y = (t : Int)) (hst : s ≤ t) (htl : t ≤ l.length) :
    ∃ (a' : Option Addr) (n' c' k : Nat) (f : Bool), (∀ W, (Instr.sliceAt 35 (.slice a l.length c) (some (.int .i64 z)) (some (.int .i64 y)) none).run Try.prog W = .ok (.slice a' n' c') W) ∧
      Hid (Calls Try.prog 100 #[.slice a' n' c', .int .i64 x] w fun e w' => e = .returned (.tuple #[.int .i64 (k : Int), .bool f]) ∧ ∃ q, w' = w.drewN q) ∧ Hid (k = cnt ((l.drop s).take (t - s)) x) ∧ k ≤ 140737488355328 := by
  have hlen : ((l.drop s).take (t - s)).length = t - s := by rw [List.length_take, List.length_drop]; omega
  refine ⟨cutA a s c, t - s, c - s, cnt ((l.drop s).take (t - s)) x, ((l.drop s).take (t - s)).contains x, fun W => slice_two a l.length c s t z y hz hy hst (by omega) W, ?_, rfl, ?_⟩
  · have := hS (cutA a s c) (c - s) ((l.drop s).take (t - s)) x w (by omega) ((hr.cut hc).take _) ((PgMath.inc_drop hi s).sublist (List.take_sublist _ _))
    rw [hlen] at this
    exact this
  · have := PgMath.cnt_len ((l.drop s).take (t - s)) x
    omega
set_option maxRecDepth 100000 in
set_option maxHeartbeats 1000000 in
theorem below_any (hS : SrchN) (a : Option Addr) (c : Nat) (l : List Int) (x : Int) (w : World) (hl : l.length ≤ 140737488355328) (hc : l.length ≤ c) (hr : NRow w a l) (hi : Inc l) :
    Calls Try.prog 85 #[.slice a l.length c, .int .i64 x] w fun e w' => e = .returned (.int .i64 (cnt l x : Int)) ∧ ∃ q, w' = w.drewN q := by
  have hl' : Hid (l.length ≤ 140737488355328 ∧ l.length ≤ c ∧ Inc l) := ⟨hl, hc, hi⟩
  clear hl hc hi
  go_enter Try.func85, Try.ntmps85
  go_wp2_with fail
  go_loopw [5] (fun mv wr => ∃ m : Nat, 1 ≤ m ∧ m ≤ 2 * l.length + 1 ∧ mv = .int .i64 (m : Int) ∧ Hid (m / 2 ≤ l.length ∧ ∀ j (h : j < l.length), j < m / 2 → l[j] < x) ∧ wr = w) (fun mv _ => 2 * l.length + 2 - (intOf mv).toNat)
  case atStart => exact ⟨1, Nat.le_refl _, by omega, rfl, ⟨by omega, fun j h hj => by omega⟩, rfl⟩
  case round =>
    obtain ⟨m, hm1, hm2, rfl, hM, rfl⟩ := hrel
    have hlb := hl'.out.1
    have i0 : (1 : Int) ≤ (m : Int) := Int.ofNat_le.2 hm1
    have ib : (m : Int) ≤ 281474976710657 := by omega
    have fin : (∀ j (h : j < l.length), min (m - 1) l.length ≤ j → x ≤ l[j]) → Hid (cnt l x = m / 2 + cnt ((l.drop (m / 2)).take (min (m - 1) l.length - m / 2)) x ∧ m / 2 ≤ min (m - 1) l.length ∧ min (m - 1) l.length ≤ c) := fun h => by
      have hh := hM.out.1
      have hs : m / 2 ≤ min (m - 1) l.length := by omega
      exact ⟨PgMath.cnt_mid l x (m / 2) (min (m - 1) l.length) hs (by omega) hM.out.2 h, hs, by have := hl'.out.2.1; omega⟩
    by_cases hlt : m ≤ l.length
    · obtain ⟨b1, o1, rfl, c1⟩ := hr (m - 1) (by omega)
      have i1 : (m : Int) ≤ (l.length : Int) := Int.ofNat_le.2 hlt
      have e1 : ((m : Int) - 1).toNat = m - 1 := by omega
      by_cases hx : l[m - 1]'(by omega) < x
      · have hN : Hid (m * 2 / 2 ≤ l.length ∧ ∀ j (h : j < l.length), j < m * 2 / 2 → l[j] < x) := by
          refine ⟨by omega, fun j h hj => ?_⟩
          by_cases e : j = m - 1
          · subst e; exact hx
          · have := List.pairwise_iff_getElem.1 hl'.out.2.2 j (m - 1) h (by omega) (by omega)
            omega
        have hlt' : Hid (m ≤ l.length) := hlt
        have lb : (l.length : Int) ≤ 140737488355328 := by omega
        generalize l[m - 1]'(by omega) = X at *
        clear hlb hM fin hm2 hlt hr
        go_wp2_with fail
        go_roundw
        case rel => exact ⟨m * 2, by omega, by have := hlt'.out; omega, by simp, hN, by trivial⟩
        case measure => have := hlt'.out; simp [intOf]; omega
      · have hF := fin (fun j h hj => by
          have e : min (m - 1) l.length = m - 1 := by omega
          rw [e] at hj
          by_cases e' : j = m - 1
          · subst e'; omega
          · have := List.pairwise_iff_getElem.1 hl'.out.2.2 (m - 1) j (by omega) h (by omega)
            omega)
        obtain ⟨a', n', c', k, f, hsl, hB, hk, hkb⟩ := bel_end hS _ c l x wr hl'.out.1 hl'.out.2.1 hr hl'.out.2.2 (m / 2) (m - 1) ((m : Int) / 2) ((m : Int) - 1) (by omega) (by omega) (by have := hM.out.1; omega) (by omega)
        have hF' : Hid (cnt l x = m / 2 + k) := by
          unfold Hid
          have := hF.out.1
          rw [show min (m - 1) l.length = m - 1 by omega, ← hk.out] at this
          exact this
        have kb : (k : Int) ≤ 140737488355328 := by omega
        have mb : (0 : Int) ≤ (m : Int) / 2 ∧ (m : Int) / 2 ≤ 281474976710657 := by omega
        clear hr hM fin hF hlb hkb hk hm2
        go_wp2_with (go_at_call 100; refine hB.out.mono ?_; rintro e w1 ⟨rfl, q, rfl⟩)
        go_ret
        exact ⟨by rw [hF'.out]; simp, q, rfl⟩
    · have hF := fin (fun j h hj => by omega)
      have i1 : ¬ (m : Int) ≤ (l.length : Int) := by omega
      by_cases hq : m - 1 ≤ l.length
      · have i2 : ¬ (l.length : Int) < (m : Int) - 1 := by omega
        obtain ⟨a', n', c', k, f, hsl, hB, hk, hkb⟩ := bel_end hS _ c l x wr hl'.out.1 hl'.out.2.1 hr hl'.out.2.2 (m / 2) (m - 1) ((m : Int) / 2) ((m : Int) - 1) (by omega) (by omega) (by have := hM.out.1; omega) (by omega)
        have hF' : Hid (cnt l x = m / 2 + k) := by
          unfold Hid
          have := hF.out.1
          rw [show min (m - 1) l.length = m - 1 by omega, ← hk.out] at this
          exact this
        have kb : (k : Int) ≤ 140737488355328 := by omega
        have mb : (0 : Int) ≤ (m : Int) / 2 ∧ (m : Int) / 2 ≤ 281474976710657 := by omega
        clear hr hM fin hF hlb hkb hk hm2
        go_wp2_with (go_at_call 100; refine hB.out.mono ?_; rintro e w1 ⟨rfl, q, rfl⟩)
        go_ret
        exact ⟨by rw [hF'.out]; simp, q, rfl⟩
      · have i2 : (l.length : Int) < (m : Int) - 1 := by omega
        obtain ⟨a', n', c', k, f, hsl, hB, hk, hkb⟩ := bel_end hS _ c l x wr hl'.out.1 hl'.out.2.1 hr hl'.out.2.2 (m / 2) (l.length) ((m : Int) / 2) ((l.length : Int)) (by omega) (by omega) (by have := hM.out.1; omega) (by omega)
        have hF' : Hid (cnt l x = m / 2 + k) := by
          unfold Hid
          have := hF.out.1
          rw [show min (m - 1) l.length = l.length by omega, ← hk.out] at this
          exact this
        have kb : (k : Int) ≤ 140737488355328 := by omega
        have mb : (0 : Int) ≤ (m : Int) / 2 ∧ (m : Int) / 2 ≤ 281474976710657 := by omega
        clear hr hM fin hF hlb hkb hk hm2
        go_wp2_with (go_at_call 100; refine hB.out.mono ?_; rintro e w1 ⟨rfl, q, rfl⟩)
        go_ret
        exact ⟨by rw [hF'.out]; simp, q, rfl⟩
end Go.Proofs.Ytdbhcemmaahemaa
