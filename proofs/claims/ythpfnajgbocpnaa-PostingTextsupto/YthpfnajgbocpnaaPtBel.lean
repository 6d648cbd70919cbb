import Derived.Test.YthpfnajgbocpnaaPtBs
namespace Go.Proofs.Ythpfnajgbocpnaa
namespace Pt
open Go.RowKit Go.Sort Go.Lib
open PtMath (Inc setOf cnt)
set_option linter.unusedVariables false
set_option maxRecDepth 100000
open PtT (Rk TB en)
variable {Tk : PtT.Rk}

theorem NRow.take {w : World} {a : Option Addr} {l : List Nat} (k : Nat) (h : NRow Tk w a l) : NRow Tk w a (l.take k) := fun i hi => by
  rw [List.length_take] at hi
  obtain ⟨b, off, e, h1⟩ := h i (by omega)
  exact ⟨b, off, e, by rw [List.getElem_take]; exact h1⟩
theorem bel_end (hS : SrchN Tk) (a : Option Addr) (c : Nat) (l : List Nat) (x : Nat) (w : World) (hl : l.length ≤ 140737488355328) (hc : l.length ≤ c) (hr : NRow Tk w a l) (hi : Inc l) (s t : Nat) (z y : Int) (hz : z = (s : Int)) (hy : y = (t : Int)) (hst : s ≤ t) (htl : t ≤ l.length) :
    ∃ (a' : Option Addr) (n' c' k : Nat), (∀ W, (Instr.sliceAt 23 (.slice a l.length c) (some (.int .i64 z)) (some (.int .i64 y)) none).run Try.prog W = .ok (.slice a' n' c') W) ∧
      Hid (Calls Try.prog 53 #[.slice a' n' c', .string (TB Tk x)] w fun e w' => SrR k e ∧ ∃ q, w' = w.drewN q) ∧ Hid (k = cnt ((l.drop s).take (t - s)) x) ∧ k ≤ 140737488355328 := by
  have hlen : ((l.drop s).take (t - s)).length = t - s := by rw [List.length_take, List.length_drop]; omega
  refine ⟨cutA a s c, t - s, c - s, cnt ((l.drop s).take (t - s)) x, fun W => slice_two a l.length c s t z y hz hy hst (by omega) W, ?_, rfl, ?_⟩
  · have := hS (cutA a s c) (c - s) ((l.drop s).take (t - s)) x w (by omega) ((hr.cut hc).take _) ((PtMath.inc_drop hi s).sublist (List.take_sublist _ _))
    rw [hlen] at this
    exact this
  · have := PtMath.cnt_len ((l.drop s).take (t - s)) x
    omega
set_option maxRecDepth 100000 in
set_option maxHeartbeats 1000000 in
theorem below_any (hS : SrchN Tk) (a : Option Addr) (c : Nat) (l : List Nat) (x : Nat) (w : World) (hl : l.length ≤ 140737488355328) (hc : l.length ≤ c) (hr : NRow Tk w a l) (hi : Inc l) :
    Calls Try.prog 43 #[.slice a l.length c, .string (TB Tk x)] w fun e w' => e = .returned (.int .i64 (cnt l x : Int)) ∧ ∃ q, w' = w.drewN q := by
  have hl' : Hid (l.length ≤ 140737488355328 ∧ l.length ≤ c ∧ Inc l) := ⟨hl, hc, hi⟩
  clear hl hc hi
  go_enter Try.func43, Try.ntmps43
  go_wp2_with fail
  go_loopw [5] (fun mv wr => ∃ m : Nat, 1 ≤ m ∧ m ≤ 2 * l.length + 1 ∧ mv = .int .i64 (m : Int) ∧ Hid (m / 2 ≤ l.length ∧ ∀ j (h : j < l.length), j < m / 2 → l[j] < x) ∧ wr = w) (fun mv _ => 2 * l.length + 2 - (intOf mv).toNat)
  case atStart => exact ⟨1, Nat.le_refl _, by omega, rfl, ⟨by omega, fun j h hj => by omega⟩, rfl⟩
  case round =>
    obtain ⟨m, hm1, hm2, rfl, hM, rfl⟩ := hrel
    have hlb := hl'.out.1
    have i0 : (1 : Int) ≤ (m : Int) := Int.ofNat_le.2 hm1
    have ib : (m : Int) ≤ 281474976710657 := by omega
    have fin : (∀ j (h : j < l.length), min (m - 1) l.length ≤ j → x ≤ l[j]) → Hid (cnt l x = m / 2 + cnt ((l.drop (m / 2)).take (min (m - 1) l.length - m / 2)) x ∧ m / 2 ≤ min (m - 1) l.length ∧ min (m - 1) l.length ≤ c) := fun h => by
      have hh := hM.out.1
      have hs : m / 2 ≤ min (m - 1) l.length := by omega
      exact ⟨PtMath.cnt_mid l x (m / 2) (min (m - 1) l.length) hs (by omega) hM.out.2 h, hs, by have := hl'.out.2.1; omega⟩
    by_cases hlt : m ≤ l.length
    · obtain ⟨b1, o1, rfl, c1⟩ := hr (m - 1) (by omega)
      have i1 : (m : Int) ≤ (l.length : Int) := Int.ofNat_le.2 hlt
      have e1 : ((m : Int) - 1).toNat = m - 1 := by omega
      by_cases hx : l[m - 1]'(by omega) < x
      · have hN : Hid (m * 2 / 2 ≤ l.length ∧ ∀ j (h : j < l.length), j < m * 2 / 2 → l[j] < x) := by
          refine ⟨by omega, fun j h hj => ?_⟩
          by_cases e : j = m - 1
          · subst e; exact hx
          · have := List.pairwise_iff_getElem.1 hl'.out.2.2 j (m - 1) h (by omega) (by omega)
            omega
        have hlt' : Hid (m ≤ l.length) := hlt
        have lb : (l.length : Int) ≤ 140737488355328 := by omega
        have hxb : Op.bytesLess (TB Tk (l[m - 1]'(by omega))).toList (TB Tk x).toList = true := by rw [PtT.less]; exact decide_eq_true hx
        generalize TB Tk (l[m - 1]'(by omega)) = X at *
        clear hx
        clear hlb hM fin hm2 hlt hr
        go_wp2_with fail
        go_roundw
        case rel => exact ⟨m * 2, by omega, by have := hlt'.out; omega, by simp, hN, by trivial⟩
        case measure => have := hlt'.out; simp [intOf]; omega
      · have hxb : Op.bytesLess (TB Tk (l[m - 1]'(by omega))).toList (TB Tk x).toList = false := by rw [PtT.less]; exact decide_eq_false hx
        have hF := fin (fun j h hj => by
          have e : min (m - 1) l.length = m - 1 := by omega
          rw [e] at hj
          by_cases e' : j = m - 1
          · subst e'; omega
          · have := List.pairwise_iff_getElem.1 hl'.out.2.2 (m - 1) j (by omega) h (by omega)
            omega)
        obtain ⟨a', n', c', k, hsl, hB, hk, hkb⟩ := bel_end hS _ c l x wr hl'.out.1 hl'.out.2.1 hr hl'.out.2.2 (m / 2) (m - 1) ((m : Int) / 2) ((m : Int) - 1) (by omega) (by omega) (by have := hM.out.1; omega) (by omega)
        have hF' : Hid (cnt l x = m / 2 + k) := by
          unfold Hid
          have := hF.out.1
          rw [show min (m - 1) l.length = m - 1 by omega, ← hk.out] at this
          exact this
        have kb : (k : Int) ≤ 140737488355328 := by omega
        have mb : (0 : Int) ≤ (m : Int) / 2 ∧ (m : Int) / 2 ≤ 281474976710657 := by omega
        clear hr hM fin hF hlb hkb hk hm2
        go_wp2_with (go_at_call 53; refine hB.out.mono ?_; rintro e w1 ⟨⟨f, rfl⟩, q, rfl⟩)
        go_ret
        exact ⟨by rw [hF'.out]; simp, q, rfl⟩
    · have hF := fin (fun j h hj => by omega)
      have i1 : ¬ (m : Int) ≤ (l.length : Int) := by omega
      by_cases hq : m - 1 ≤ l.length
      · have i2 : ¬ (l.length : Int) < (m : Int) - 1 := by omega
        obtain ⟨a', n', c', k, hsl, hB, hk, hkb⟩ := bel_end hS _ c l x wr hl'.out.1 hl'.out.2.1 hr hl'.out.2.2 (m / 2) (m - 1) ((m : Int) / 2) ((m : Int) - 1) (by omega) (by omega) (by have := hM.out.1; omega) (by omega)
        have hF' : Hid (cnt l x = m / 2 + k) := by
          unfold Hid
          have := hF.out.1
          rw [show min (m - 1) l.length = m - 1 by omega, ← hk.out] at this
          exact this
        have kb : (k : Int) ≤ 140737488355328 := by omega
        have mb : (0 : Int) ≤ (m : Int) / 2 ∧ (m : Int) / 2 ≤ 281474976710657 := by omega
        clear hr hM fin hF hlb hkb hk hm2
        go_wp2_with (go_at_call 53; refine hB.out.mono ?_; rintro e w1 ⟨⟨f, rfl⟩, q, rfl⟩)
        go_ret
        exact ⟨by rw [hF'.out]; simp, q, rfl⟩
      · have i2 : (l.length : Int) < (m : Int) - 1 := by omega
        obtain ⟨a', n', c', k, hsl, hB, hk, hkb⟩ := bel_end hS _ c l x wr hl'.out.1 hl'.out.2.1 hr hl'.out.2.2 (m / 2) (l.length) ((m : Int) / 2) ((l.length : Int)) (by omega) (by omega) (by have := hM.out.1; omega) (by omega)
        have hF' : Hid (cnt l x = m / 2 + k) := by
          unfold Hid
          have := hF.out.1
          rw [show min (m - 1) l.length = l.length by omega, ← hk.out] at this
          exact this
        have kb : (k : Int) ≤ 140737488355328 := by omega
        have mb : (0 : Int) ≤ (m : Int) / 2 ∧ (m : Int) / 2 ≤ 281474976710657 := by omega
        clear hr hM fin hF hlb hkb hk hm2
        go_wp2_with (go_at_call 53; refine hB.out.mono ?_; rintro e w1 ⟨⟨f, rfl⟩, q, rfl⟩)
        go_ret
        exact ⟨by rw [hF'.out]; simp, q, rfl⟩
end Pt
end Go.Proofs.Ythpfnajgbocpnaa
