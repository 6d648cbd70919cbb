import Derived.Test.YtkknenmpdimdbaaGreatDoorFW31
namespace Go.Proofs.YtkknenmpdimdbaaGreatDoor
namespace Pa
open TextMath (fold lo normal check wo)
open Ke (tyOk tyC utf PR)
set_option linter.unusedVariables false
theorem tv_code : ∀ (n : Nat) (l a : List UInt8) (c k m : Nat), l.length < n → tv n l a c = .error (k, m) → k = 54 ∨ k = 55
 | 0, l, a, c, k, m, hn, h => absurd hn (Nat.not_lt_zero _)
 | n + 1, l, a, c, k, m, hn, h => by
  rw [tv_step] at h
  by_cases h0 : kO l = 0
  ·rw [if_pos h0] at h; cases h
  ·have hl : 1 ≤ l.length := by
    cases l with
    | nil => exact absurd rfl h0
    | cons x l => simp
   rw [if_neg h0] at h
   by_cases h1 : kO l = 1
   ·rw [if_pos h1] at h; injection h with h; injection h with h _; exact Or.inl h.symm
   ·rw [if_neg h1] at h
    by_cases h2 : kO l = 2
    ·rw [if_pos h2] at h; injection h with h; injection h with h _; exact Or.inr h.symm
    ·rw [if_neg h2] at h
     by_cases h3 : kO l = 3
     ·rw [if_pos h3] at h
      exact tv_code n _ _ _ k m (by rw [List.length_drop]; omega) h
     ·rw [if_neg h3] at h
      by_cases h4 : kO l = 4
      ·rw [if_pos h4] at h
       exact tv_code n _ _ _ k m (by rw [List.length_drop]; omega) h
      ·rw [if_neg h4] at h
       by_cases h5 : kO l = 5
       ·rw [if_pos h5] at h
        exact tv_code n _ _ _ k m (by rw [List.length_drop]; omega) h
       ·rw [if_neg h5] at h
        exact tv_code n _ _ _ k m (by rw [List.length_drop]; omega) h
theorem hxR_code {r : List UInt8} {k m : Nat} (h : hxR r = .error (k, m)) : k = 55 ∨ k = 56 := by
 unfold hxR at h
 cases ht : txE (r.takeWhile hd) with
 | none => rw [ht] at h; injection h with h; injection h with h _; exact Or.inr h.symm
 | some v =>
  rw [ht] at h
  dsimp only at h
  by_cases hk : kO (sp (r.dropWhile hd)) = 0
  ·rw [if_pos hk] at h; cases h
  ·rw [if_neg hk] at h; injection h with h; injection h with h _; exact Or.inl h.symm
theorem pv_code {l : List UInt8} {k m : Nat} (h : pv hxO l = some (.error (k, m))) : 51 ≤ k ∧ k ≤ 58 := by
 unfold pv hxO at h
 have key : ∀ v : VR, (∀ k m, v = .error (k, m) → 51 ≤ k ∧ k ≤ 58) → (some v).map (fun v => match v with
  | .error e => .error e
  | .ok x => if utf x.1 = true then .ok x else .error (51, l.length)) = some (.error (k, m) : VR) → 51 ≤ k ∧ k ≤ 58 := fun v hv h => by
  cases v with
  | error e =>
   obtain ⟨a, b⟩ := e
   injection h with h
   injection h with h
   injection h with h1 h2
   subst h1 h2
   exact hv _ _ rfl
  | ok x =>
   injection h with h
   dsimp only at h
   split at h
   ·cases h
   ·injection h with h
    injection h with h1 _
    omega
 split at h
 ·exact key _ (fun k m e => by rcases hxR_code e with h | h <;> omega) h
 ·exact key _ (fun k m e => by rcases tv_code _ _ _ _ _ _ (Nat.lt_succ_self _) e with h | h <;> omega) h
theorem pt_code {A : List (List UInt8)} {l : List UInt8} {k m : Nat} (h : pt A l = .error (k, m)) : 51 ≤ k ∧ k ≤ 58 := by
 unfold pt at h
 split at h
 ·injection h with h; injection h with h _; omega
 ·split at h
  ·injection h with h; injection h with h _; omega
  ·split at h
   ·cases h
   ·injection h with h; injection h with h _; omega
theorem prt_code : ∀ (n num : Nat) (ps : List PR) (l : List UInt8) (k m : Nat), prt hxO n num ps l = some (.error (k, m)) → 51 ≤ k ∧ k ≤ 58
 | 0, num, ps, l, k, m, h => by cases h
 | n + 1, num, ps, l, k, m, h => by
  unfold prt at h
  split at h
  ·injection h with h; injection h with h; injection h with h _; omega
  ·cases hp : pt (ps.map fun p => tyC p.1) (sp l) with
   | error e =>
    rw [hp] at h
    injection h with h
    injection h with h
    subst h
    exact pt_code hp
   | ok x =>
    rw [hp] at h
    dsimp only at h
    cases hv : pv hxO x.2 with
    | none => rw [hv] at h; cases h
    | some v =>
     rw [hv] at h
     cases v with
     | error e =>
      injection h with h
      injection h with h
      subst h
      exact pv_code hv
     | ok y =>
      dsimp only at h
      split at h
      ·exact prt_code n num _ _ k m h
      ·cases h
theorem nmP_code : ∀ (n : Nat) (D : List (List PR)) (l : List UInt8) (k m : Nat), nmP hxO n D l = some (.error (k, m)) → 51 ≤ k ∧ k ≤ 58
 | 0, D, l, k, m, h => by cases h
 | n + 1, D, l, k, m, h => by
  unfold nmP at h
  cases hp : prt hxO 9 D.length [] l with
  | none => rw [hp] at h; cases h
  | some P =>
   rw [hp] at h
   cases P with
   | error e =>
    injection h with h
    injection h with h
    subst h
    exact prt_code _ _ _ _ _ _ hp
   | ok x =>
    dsimp only at h
    split at h
    ·exact nmP_code n _ _ k m h
    ·cases h
theorem prs_code {l : List UInt8} {k m : Nat} (h : prs hxO l = some (.error (k, m))) : 50 ≤ k ∧ k ≤ 58 := by
 unfold prs at h
 split at h
 ·injection h with h; injection h with h; injection h with h _; omega
 ·split at h
  ·injection h with h; injection h with h; injection h with h _; omega
  ·split at h
   ·cases h
   ·have := nmP_code _ _ _ _ _ h; omega
end Pa
end Go.Proofs.YtkknenmpdimdbaaGreatDoor

namespace Go.Proofs.YtkknenmpdimdbaaGreatDoor
namespace Pa
open TextMath (fold lo normal check wo seqLen check_good check_bad check_ind check_app_good seqLen_le)
open Ke (tyOk tyC tyR utf PR mst ec escF escV pt1 ptT ptx OkP OkI OkD Gd typ_good)
set_option linter.unusedVariables false
set_option linter.unusedSimpArgs false
end Pa
end Go.Proofs.YtkknenmpdimdbaaGreatDoor
