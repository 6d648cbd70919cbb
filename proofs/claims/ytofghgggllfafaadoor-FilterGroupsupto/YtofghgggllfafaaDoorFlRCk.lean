import Derived.Test.YtofghgggllfafaaDoorFlChM
import Derived.Test.YtofghgggllfafaaDoorFlFld
import Derived.Test.YtofghgggllfafaaDoorFlLok
import Derived.BigQuiet
namespace Go.Proofs.YtofghgggllfafaaDoor
open Go.RowKit
open TextMath
set_option linter.unusedVariables false

theorem wrU {i j : Nat} (h : j = i + 1) (hi : i ≤ 1048577) : wrap64 ((i : Int) + 1) = (j : Int) ∧ IntKind.i64.wrap ((i : Int) + 1) = (j : Int) := by
  have e : (i : Int) + 1 = (j : Int) := by omega
  rw [e]
  exact ⟨by rw [IntWalk.wrap64_in] <;> omega, by rw [IntKind.wrap_i64]; omega⟩
theorem wrD {i k : Nat} (h : i = k + 1) (hi : i ≤ 1048577) : wrap64 ((i : Int) - 1) = (k : Int) ∧ IntKind.i64.wrap ((i : Int) - 1) = (k : Int) := by
  have e : (i : Int) - 1 = (k : Int) := by omega
  rw [e]
  exact ⟨by rw [IntWalk.wrap64_in] <;> omega, by rw [IntKind.wrap_i64]; omega⟩
theorem wrI {d : Int} (h : -1000 ≤ d) (h' : d ≤ 1000) : wrap64 (d + 1) = d + 1 ∧ IntKind.i64.wrap (d + 1) = d + 1 :=
  ⟨by rw [IntWalk.wrap64_in] <;> omega, by rw [IntKind.wrap_i64]; omega⟩

set_option maxRecDepth 100000 in
set_option maxHeartbeats 4000000 in
theorem second_any (xs : List Nod) (i : Nat) (hi : i < xs.length) (a : Option Addr) (c : Nat) (w : World) (hF : FRow w a xs) (hn : xs.length ≤ 1048577) :
    Calls Tryd.prog 23 #[.slice a xs.length c, .int .i64 (i : Int)] w fun e w' => e = .returned (.bool (sec false (pre xs i) xs[i].dep)) ∧ Below w.heap.size w w' := by
  obtain ⟨b, off, rfl, z0, z⟩ := hF.at i hi
  clear z
  have H : Hid (∀ k (hk : k < xs.length), w.cell? ⟨b, off + k * 9, none⟩ = some (.int .i64 xs[k].dep) ∧ w.cell? ⟨b, off + k * 9 + 1, none⟩ = some (.int .i64 xs[k].op)) := fun k hk => by
    obtain ⟨b', off', q, k0, k1, _⟩ := hF.at k hk
    injection q with q; injection q with q1 q2; subst q1 q2
    exact ⟨k0, k1⟩
  obtain ⟨D, hD⟩ : ∃ D, xs[i].dep = D := ⟨_, rfl⟩
  rw [hD] at z0 ⊢
  have j0 : (0 : Int) ≤ (i : Int) := Int.natCast_nonneg _
  have j1 : (i : Int) < (xs.length : Int) := Int.ofNat_lt.2 hi
  have hs0 : wrap64 ((i : Int) - 1) = (i : Int) - 1 := by rw [IntWalk.wrap64_in] <;> omega
  have HI : Hid (i < xs.length ∧ xs.length ≤ 1048577) := ⟨hi, hn⟩
  have hA : Hid (((i : Int) - 1) = (((i : Nat) : Int) - 1) ∧ sec false (pre xs i) D = sec false (pre xs i) D ∧ Below w.heap.size w w) := ⟨rfl, rfl, Below.refl _ _⟩
  clear hF hD hn hi
  go_enter Tryd.func23, Tryd.ntmps23
  go_wp2_with fail
  clear hs0
  go_loopw [5, 6] (fun kv iv wr => ∃ (m q : Nat) (t : Bool), m ≤ i ∧ iv = .int .i64 ((m : Int) - 1) ∧ kv = .bool t ∧ Hid (sec false (pre xs i) D = sec t (pre xs m) D) ∧ Hid (wr = w.drewN q)) (fun _ iv _ => ((intOf iv) + 1).toNat)
  case atStart => exact ⟨i, 0, false, Nat.le_refl _, rfl, rfl, rfl, rfl⟩
  case round =>
    obtain ⟨m, q, t, hm, rfl, rfl, hsec, hw⟩ := hrel
    have hE : ∀ a, wr.cell? a = w.cell? a := fun a => by rw [hw.out]; rfl
    cases m with
    | zero =>
      have hr : Hid (sec false (pre xs i) D = false) := by unfold Hid; rw [hsec.out, pre_zero]; rfl
      clear hE
      go_wp2_with fail
      go_ret
      exact ⟨by rw [hr.out]; rfl, by rw [hw.out]; exact drewN_below _ _ _⟩
    | succ k =>
      have hk : k < xs.length := by have := HI.out.1; omega
      obtain ⟨c0, c1⟩ := H.out k hk
      rw [← hE] at c0 c1 z0
      have hps : pre xs (k + 1) = xs[k] :: pre xs k := pre_succ hk
      rw [hps] at hsec
      simp only [sec] at hsec
      have ek : ((k + 1 : Nat) : Int) - 1 = (k : Int) := by omega
      have k0 : (0 : Int) ≤ (k : Int) := Int.natCast_nonneg _
      have k1 : (k : Int) < (xs.length : Int) := Int.ofNat_lt.2 hk
      have hkm : Hid (k + 1 ≤ i) := hm
      have hs1 : wrap64 ((k : Int) - 1) = (k : Int) - 1 := by have := HI.out; rw [IntWalk.wrap64_in] <;> omega
      rw [ek]
      generalize xs[k].dep = d at *
      generalize xs[k].op = o at *
      clear hE hps hm ek
      by_cases h1 : d < D
      · rw [if_pos h1] at hsec
        have e1 : (d == D) = false := by simp; omega
        have e2 : decide (d < D) = true := decide_eq_true h1
        cases t with
        | false =>
          go_wp2_with fail
          go_quiet (fail)
          go_wp2_with fail
          go_quiet (fail)
          go_wp2_with fail
          go_ret
          exact ⟨by rw [hsec.out]; rfl, by rw [hw.out, World.drewN_drewN]; exact drewN_below _ _ _⟩
        | true =>
          go_wp2_with fail
          go_quiet (fail)
          go_wp2_with fail
          go_quiet (fail)
          go_wp2_with fail
          go_ret
          refine ⟨?_, by rw [hw.out, World.drewN_drewN]; exact drewN_below _ _ _⟩
          rw [hsec.out]
          by_cases ho : o = 2
          · subst ho; rfl
          · have : (o == 2) = false := by simpa using ho
            simp [ho]
      · rw [if_neg h1] at hsec
        have e2 : decide (d < D) = false := decide_eq_false h1
        by_cases h2 : d = D
        · have e1 : (d == D) = true := by simpa using h2
          rw [decide_eq_true h2, Bool.or_true] at hsec
          go_wp2_with fail
          go_quiet (fail)
          go_wp2_with fail
          go_quiet (fail)
          go_wp2_with fail
          go_roundw
          case rel => exact ⟨k, _, true, by have := hkm.out; omega, by simpa using hs1, by simp, hsec, by unfold Hid; rw [hw.out, World.drewN_drewN]⟩
          case measure => simp [intOf]; omega
        · have e1 : (d == D) = false := by simpa using h2
          rw [decide_eq_false h2, Bool.or_false] at hsec
          go_wp2_with fail
          go_quiet (fail)
          go_wp2_with fail
          go_quiet (fail)
          go_wp2_with fail
          go_roundw
          case rel => exact ⟨k, _, t, by have := hkm.out; omega, by simpa using hs1, by simp, hsec, by unfold Hid; rw [hw.out, World.drewN_drewN]⟩
          case measure => simp [intOf]; omega
end Go.Proofs.YtofghgggllfafaaDoor
