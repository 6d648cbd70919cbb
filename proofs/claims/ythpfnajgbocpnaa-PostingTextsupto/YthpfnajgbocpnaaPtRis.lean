import Derived.Test.YthpfnajgbocpnaaPtRow
namespace Go.Proofs.Ythpfnajgbocpnaa
namespace Pt
open Go.RowKit Go.Sort Go.Lib
open PtMath (Inc setOf cnt)
set_option linter.unusedVariables false
set_option maxRecDepth 100000
open PtT (Rk TB en)
variable {Tk : PtT.Rk}

theorem inc_take_succ {l : List Nat} {i : Nat} (h : Inc (l.take i)) (hi : i < l.length) (h1 : 1 ≤ i) (h2 : l[i - 1]'(by omega) < l[i]) : Inc (l.take (i + 1)) := by
  rw [PtMath.inc_step] at h ⊢
  intro j hj hj1
  rw [List.length_take] at hj
  simp only [List.getElem_take]
  by_cases e : j = i
  · subst e; exact h2
  · have := h j (by rw [List.length_take]; omega) hj1
    simpa only [List.getElem_take] using this
theorem inc_one (l : List Nat) : Inc (l.take 1) := by
  cases l with
  | nil => simp [Inc]
  | cons x l => simp [Inc]
theorem inc_not {l : List Nat} {i : Nat} (hi : i < l.length) (h1 : 1 ≤ i) (h2 : ¬ l[i - 1]'(by omega) < l[i]) : ¬ Inc l := fun h => h2 (PtMath.inc_step.1 h i hi h1)

set_option maxRecDepth 100000 in
set_option maxHeartbeats 1000000 in
theorem rising_any (l : List Nat) (a : Option Addr) (c : Nat) (w : World) (hl : l.length ≤ 140737488355328) (h1 : NRow Tk w a l) :
    Calls Try.prog 7 #[.slice a l.length c] w fun e w' => e = .returned (.bool (decide (Inc l))) ∧ ∃ q, w' = w.drewN q := by
  have hl' : Hid (l.length ≤ 140737488355328) := hl
  clear hl
  go_enter Try.func7, Try.ntmps7
  go_wp2_with fail
  go_loopw [3] (fun iv wr => ∃ i q : Nat, 1 ≤ i ∧ i ≤ l.length + 1 ∧ iv = .int .i64 (i : Int) ∧ Hid (Inc (l.take i)) ∧ Hid (wr = w.drewN q)) (fun iv _ => l.length + 1 - (intOf iv).toNat)
  case atStart => exact ⟨1, 0, Nat.le_refl _, by omega, rfl, by unfold Hid; exact inc_one l, rfl⟩
  case round =>
    obtain ⟨i, q, hi1, hi, rfl, htk, hw⟩ := hrel
    have hlb := hl'.out
    by_cases hlt : i < l.length
    · obtain ⟨b1, o1, rfl, c1⟩ := h1 i hlt
      obtain ⟨b2, o2, e2, c2⟩ := h1 (i - 1) (by omega)
      injection e2 with e2
      injection e2 with e2 e3
      subst e2 e3
      have hE : ∀ a, wr.cell? a = w.cell? a := fun a => by rw [hw.out]; rfl
      rw [← hE] at c1 c2
      have i0 : (1 : Int) ≤ (i : Int) := Int.ofNat_le.2 hi1
      have i1 : (i : Int) < (l.length : Int) := Int.ofNat_lt.2 hlt
      have e1 : ((i : Int) - 1).toNat = i - 1 := by omega
      have ib : (i : Int) ≤ 140737488355328 := by omega
      by_cases hx : l[i - 1]'(by omega) < l[i]
      · have htk' : Hid (Inc (l.take (i + 1))) := inc_take_succ htk.out hlt hi1 hx
        have hx' : Op.bytesLess (TB Tk (l[i - 1]'(by omega))).toList (TB Tk l[i]).toList = true := by rw [PtT.less]; exact decide_eq_true hx
        generalize TB Tk l[i] = X at *
        generalize TB Tk (l[i - 1]'(by omega)) = Y at *
        have hlt' : Hid (i < l.length) := hlt
        clear hE hx h1 hi hlb hlt
        go_wp2_with fail
        go_quiet (fail)
        go_wp2_with fail
        go_roundw
        case rel => exact ⟨i + 1, _, by omega, by have := hlt'.out; omega, by simp, htk', by unfold Hid; rw [hw.out, World.drewN_drewN]⟩
        case measure => have := hlt'.out; simp [intOf]; omega
      · have hno : Hid (¬ Inc l) := inc_not hlt hi1 hx
        have hx' : Op.bytesLess (TB Tk (l[i - 1]'(by omega))).toList (TB Tk l[i]).toList = false := by rw [PtT.less]; exact decide_eq_false hx
        generalize TB Tk l[i] = X at *
        generalize TB Tk (l[i - 1]'(by omega)) = Y at *
        clear hE hx h1 hi hlb hlt
        go_wp2_with fail
        go_quiet (fail)
        go_wp2_with fail
        go_ret
        exact ⟨by rw [decide_eq_false hno.out]; rfl, _, by rw [hw.out, World.drewN_drewN]⟩
    · have hyes : Hid (Inc l) := by
        unfold Hid
        have := htk.out
        rwa [List.take_of_length_le (by omega)] at this
      have i1 : ¬ (i : Int) < (l.length : Int) := by omega
      clear h1 hlb hi
      go_wp2_with fail
      go_ret
      exact ⟨by rw [decide_eq_true hyes.out]; rfl, q, hw.out⟩
end Pt
end Go.Proofs.Ythpfnajgbocpnaa
