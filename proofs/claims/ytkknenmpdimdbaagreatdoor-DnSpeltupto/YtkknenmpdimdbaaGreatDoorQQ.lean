import Derived.Test.YtkknenmpdimdbaaGreatDoorQP
import Derived.Deep.RegionWith
namespace Go.Proofs.YtkknenmpdimdbaaGreatDoor
namespace BerMath

/-- An element that is met: its place, its header, its depth. -/
abbrev El := Nat × Hd × Nat
/-- The elements that are met, and the fault that ends them. -/
abbrev TR := List El × Option (Nat × Nat)
def elEnd (x : El) : Nat := x.1 + x.2.1.size + x.2.1.len
def endE : List El → Nat
  | [] => 0
  | x :: _ => elEnd x
/-- One element at p, and all that it holds. -/
def one (b : List UInt8) (K : Nat → Nat → Nat → TR) (m e p d : Nat) : TR :=
  if 64 < d then ([], some (25, p))
  else match wAt b p e with
    | .ok h => if h.made = true then ((p, h, d) :: (K (p + h.size + h.len) (p + h.size) (d + 1)).1, (K (p + h.size + h.len) (p + h.size) (d + 1)).2) else ([(p, h, d)], none)
    | .error (some f) => ([], some f)
    | .error none => ([], some (m, e))
/-- What stands behind elements. -/
def andThen (r : TR) (s : List El → TR) : TR :=
  match r.2 with
  | some f => (r.1, some f)
  | none => (r.1 ++ (s r.1).1, (s r.1).2)
/-- The elements from q up to e, at the depth d. -/
def kids (b : List UInt8) : Nat → Nat → Nat → Nat → TR
  | 0, _, _, _ => ([], none)
  | n + 1, e, q, d => if e ≤ q then ([], none) else andThen (one b (kids b n) 26 e q d) (fun xs => kids b n e (endE xs) d)

theorem wAt_ok (b : List UInt8) (p e : Nat) (h : Hd) (hh : wAt b p e = .ok h) : 2 ≤ h.size ∧ h.size ≤ 6 ∧ h.len < 4294967296 ∧ h.cls ≤ 3 ∧ h.tag ≤ 30 ∧ p + h.size + h.len ≤ e := by
  unfold wAt at hh
  cases hx : hAt b p e with
  | ok x =>
    rw [hx] at hh
    dsimp only at hh
    split at hh
    · cases hh
    · injection hh with hh
      subst hh
      obtain ⟨h1, h2, h3, h4, h5, _⟩ := hAt_ok b p e x hx
      exact ⟨h1, h2, h3, h4, h5, by omega⟩
  | error o =>
    rw [hx] at hh
    cases o with
    | none => cases hh
    | some cq => obtain ⟨c, q⟩ := cq; cases hh
theorem wAt_er (b : List UInt8) (p e c q : Nat) (hh : wAt b p e = .error (some (c, q))) : c = 21 ∨ c = 22 ∨ c = 23 := by
  unfold wAt at hh
  cases hx : hAt b p e with
  | ok x =>
    rw [hx] at hh
    dsimp only at hh
    split at hh <;> cases hh
  | error o =>
    rw [hx] at hh
    cases o with
    | none => cases hh
    | some cq =>
      obtain ⟨c', q'⟩ := cq
      dsimp only at hh
      have e1 := er_inj hh
      unfold hAt at hx
      split at hx
      · cases hx
      split at hx
      · have h1 := (er_inj hx).1; omega
      split at hx
      · cases hx
      split at hx
      · have h1 := (er_inj hx).1; omega
      split at hx
      · have h1 := (er_inj hx).1; omega
      split at hx
      · cases hx
      split at hx
      · cases hx
      · cases hx

theorem one_deep (b : List UInt8) (K : Nat → Nat → Nat → TR) (m e p d : Nat) (h : 64 < d) : one b K m e p d = ([], some (25, p)) := by
  unfold one; rw [if_pos h]
theorem one_made (b : List UInt8) (K : Nat → Nat → Nat → TR) (m e p d : Nat) (h : Hd) (hd : ¬ 64 < d) (hw : wAt b p e = .ok h) (hm : h.made = true) :
    one b K m e p d = ((p, h, d) :: (K (p + h.size + h.len) (p + h.size) (d + 1)).1, (K (p + h.size + h.len) (p + h.size) (d + 1)).2) := by
  unfold one; rw [if_neg hd, hw]; dsimp only; rw [if_pos hm]
theorem one_leaf (b : List UInt8) (K : Nat → Nat → Nat → TR) (m e p d : Nat) (h : Hd) (hd : ¬ 64 < d) (hw : wAt b p e = .ok h) (hm : ¬ h.made = true) : one b K m e p d = ([(p, h, d)], none) := by
  unfold one; rw [if_neg hd, hw]; dsimp only; rw [if_neg hm]
theorem one_er (b : List UInt8) (K : Nat → Nat → Nat → TR) (m e p d : Nat) (f : Nat × Nat) (hd : ¬ 64 < d) (hw : wAt b p e = .error (some f)) : one b K m e p d = ([], some f) := by
  unfold one; rw [if_neg hd, hw]
theorem one_miss (b : List UInt8) (K : Nat → Nat → Nat → TR) (m e p d : Nat) (hd : ¬ 64 < d) (hw : wAt b p e = .error none) : one b K m e p d = ([], some (m, e)) := by
  unfold one; rw [if_neg hd, hw]
theorem kids_end (b : List UInt8) (n e q d : Nat) (h : e ≤ q) : kids b n e q d = ([], none) := by
  cases n with
  | zero => rfl
  | succ n => show (if e ≤ q then _ else _) = _; rw [if_pos h]
theorem kids_succ (b : List UInt8) (n e q d : Nat) (h : ¬ e ≤ q) : kids b (n + 1) e q d = andThen (one b (kids b n) 26 e q d) (fun xs => kids b n e (endE xs) d) := by
  show (if e ≤ q then _ else _) = _; rw [if_neg h]
/-- What one element's first is. -/
theorem one_head (b : List UInt8) (K : Nat → Nat → Nat → TR) (m e p d : Nat) (xs : List El) (h : one b K m e p d = (xs, none)) :
    ∃ hd ys, wAt b p e = .ok hd ∧ xs = (p, hd, d) :: ys := by
  by_cases h1 : 64 < d
  · rw [one_deep b K m e p d h1] at h; cases h
  cases hw : wAt b p e with
  | ok x =>
    by_cases hm : x.made = true
    · rw [one_made b K m e p d x h1 hw hm] at h
      injection h with h _
      exact ⟨x, _, rfl, h.symm⟩
    · rw [one_leaf b K m e p d x h1 hw hm] at h
      injection h with h _
      exact ⟨x, [], rfl, h.symm⟩
  | error o =>
    cases o with
    | some f => rw [one_er b K m e p d f h1 hw] at h; cases h
    | none => rw [one_miss b K m e p d h1 hw] at h; cases h
/-- Enough fuel is enough. -/
theorem kids_fuel (b : List UInt8) : ∀ (n m e q d : Nat), e ≤ q + n → e ≤ q + m → kids b n e q d = kids b m e q d := by
  intro n
  induction n with
  | zero => intro m e q d h1 _; rw [kids_end b 0 e q d (by omega), kids_end b m e q d (by omega)]
  | succ n ih =>
    intro m e q d h1 h2
    by_cases hq : e ≤ q
    · rw [kids_end b _ e q d hq, kids_end b m e q d hq]
    cases m with
    | zero => omega
    | succ m =>
      rw [kids_succ b n e q d hq, kids_succ b m e q d hq]
      have ho : one b (kids b n) 26 e q d = one b (kids b m) 26 e q d := by
        by_cases hd : 64 < d
        · rw [one_deep _ _ _ _ _ _ hd, one_deep _ _ _ _ _ _ hd]
        cases hw : wAt b q e with
        | ok x =>
          obtain ⟨k1, k2, k3, k4, k5, k6⟩ := wAt_ok b q e x hw
          by_cases hm : x.made = true
          · rw [one_made _ _ _ _ _ _ x hd hw hm, one_made _ _ _ _ _ _ x hd hw hm, ih m _ _ _ (by omega) (by omega)]
          · rw [one_leaf _ _ _ _ _ _ x hd hw hm, one_leaf _ _ _ _ _ _ x hd hw hm]
        | error o =>
          cases o with
          | some f => rw [one_er _ _ _ _ _ _ f hd hw, one_er _ _ _ _ _ _ f hd hw]
          | none => rw [one_miss _ _ _ _ _ _ hd hw, one_miss _ _ _ _ _ _ hd hw]
      rw [ho]
      obtain ⟨⟨xs, r⟩, hr⟩ : ∃ y, one b (kids b m) 26 e q d = y := ⟨_, rfl⟩
      rw [hr]
      cases r with
      | some f => rfl
      | none =>
        obtain ⟨x, ys, hw, rfl⟩ := one_head b _ _ _ _ _ _ hr
        obtain ⟨k1, k2, k3, k4, k5, k6⟩ := wAt_ok b q e x hw
        unfold andThen
        dsimp only [endE, elEnd]
        rw [ih m e (q + x.size + x.len) d (by omega) (by omega)]
theorem one_fuel (b : List UInt8) (n k m e p d : Nat) (h1 : e ≤ p + n + 2) (h2 : e ≤ p + k + 2) : one b (kids b n) m e p d = one b (kids b k) m e p d := by
  by_cases hd : 64 < d
  · rw [one_deep _ _ _ _ _ _ hd, one_deep _ _ _ _ _ _ hd]
  cases hw : wAt b p e with
  | ok x =>
    obtain ⟨k1, k2, k3, k4, k5, k6⟩ := wAt_ok b p e x hw
    by_cases hm : x.made = true
    · rw [one_made _ _ _ _ _ _ x hd hw hm, one_made _ _ _ _ _ _ x hd hw hm, kids_fuel b n k _ _ _ (by omega) (by omega)]
    · rw [one_leaf _ _ _ _ _ _ x hd hw hm, one_leaf _ _ _ _ _ _ x hd hw hm]
  | error o =>
    cases o with
    | some f => rw [one_er _ _ _ _ _ _ f hd hw, one_er _ _ _ _ _ _ f hd hw]
    | none => rw [one_miss _ _ _ _ _ _ hd hw, one_miss _ _ _ _ _ _ hd hw]

/-- How many elements: each takes two bytes at least. -/
theorem kids_len (b : List UInt8) : ∀ (n e q d : Nat), q ≤ e → 2 * (kids b n e q d).1.length + q ≤ e ∧ ∀ x ∈ (kids b n e q d).1, q ≤ x.1 ∧ elEnd x ≤ e ∧ 2 ≤ x.2.1.size ∧ x.2.1.size ≤ 6 ∧ x.2.1.len < 4294967296 ∧ x.2.1.cls ≤ 3 ∧ x.2.1.tag ≤ 30 ∧ x.2.2 ≤ 64 := by
  intro n
  induction n with
  | zero => intro e q d h; exact ⟨by simpa [kids] using h, fun x hx => by simp [kids] at hx⟩
  | succ n ih =>
    intro e q d hqe
    by_cases hq : e ≤ q
    · rw [kids_end b _ e q d hq]; exact ⟨by simpa using hqe, fun x hx => by simp at hx⟩
    rw [kids_succ b n e q d hq]
    have ho : ∀ xs r, one b (kids b n) 26 e q d = (xs, r) → (r = none → 2 * xs.length + q ≤ endE xs ∧ endE xs ≤ e) ∧ 2 * xs.length + q ≤ e ∧ ∀ x ∈ xs, q ≤ x.1 ∧ elEnd x ≤ e ∧ 2 ≤ x.2.1.size ∧ x.2.1.size ≤ 6 ∧ x.2.1.len < 4294967296 ∧ x.2.1.cls ≤ 3 ∧ x.2.1.tag ≤ 30 ∧ x.2.2 ≤ 64 := by
      intro xs r h
      by_cases hd : 64 < d
      · rw [one_deep _ _ _ _ _ _ hd] at h
        injection h with h1 h2
        subst h1 h2
        exact ⟨fun e => (by cases e), by simpa using hqe, fun x hx => by simp at hx⟩
      cases hw : wAt b q e with
      | ok x =>
        obtain ⟨k1, k2, k3, k4, k5, k6⟩ := wAt_ok b q e x hw
        by_cases hm : x.made = true
        · rw [one_made _ _ _ _ _ _ x hd hw hm] at h
          injection h with h1 h2
          obtain ⟨i1, i2⟩ := ih (q + x.size + x.len) (q + x.size) (d + 1) (by omega)
          subst h1
          refine ⟨fun _ => ?_, ?_, ?_⟩
          · simp only [List.length_cons, endE, elEnd]; omega
          · simp only [List.length_cons]; omega
          · intro y hy
            rcases List.mem_cons.1 hy with rfl | hy
            · exact ⟨Nat.le_refl _, k6, k1, k2, k3, k4, k5, by show d ≤ 64; omega⟩
            · obtain ⟨j1, j2, j3⟩ := i2 y hy
              exact ⟨by omega, by omega, j3⟩
        · rw [one_leaf _ _ _ _ _ _ x hd hw hm] at h
          injection h with h1 h2
          subst h1
          refine ⟨fun _ => ?_, ?_, ?_⟩
          · simp only [List.length_cons, List.length_nil, endE, elEnd]; omega
          · simp only [List.length_cons, List.length_nil]; omega
          · intro y hy
            rcases List.mem_cons.1 hy with rfl | hy
            · exact ⟨Nat.le_refl _, k6, k1, k2, k3, k4, k5, by show d ≤ 64; omega⟩
            · simp at hy
      | error o =>
        cases o with
        | some f =>
          rw [one_er _ _ _ _ _ _ f hd hw] at h
          injection h with h1 h2
          subst h1 h2
          exact ⟨fun e => (by cases e), by simpa using hqe, fun x hx => by simp at hx⟩
        | none =>
          rw [one_miss _ _ _ _ _ _ hd hw] at h
          injection h with h1 h2
          subst h1 h2
          exact ⟨fun e => (by cases e), by simpa using hqe, fun x hx => by simp at hx⟩
    obtain ⟨⟨xs, r⟩, hr⟩ : ∃ y, one b (kids b n) 26 e q d = y := ⟨_, rfl⟩
    rw [hr]
    obtain ⟨o1, o2, o3⟩ := ho xs r hr
    cases r with
    | some f => exact ⟨o2, o3⟩
    | none =>
      obtain ⟨o4, o5⟩ := o1 rfl
      obtain ⟨i1, i2⟩ := ih e (endE xs) d o5
      unfold andThen
      dsimp only
      refine ⟨by rw [List.length_append]; omega, fun y hy => ?_⟩
      rcases List.mem_append.1 hy with hy | hy
      · exact o3 y hy
      · obtain ⟨j1, j2, j3⟩ := i2 y hy
        exact ⟨by omega, j2, j3⟩
end BerMath
end Go.Proofs.YtkknenmpdimdbaaGreatDoor

namespace Go.Proofs.YtkknenmpdimdbaaGreatDoor
open Go.RowKit
open BerMath (Hd HR num hAt wAt)

/-- An element that was read. -/
abbrev elmV (h : Hd) (d : Int) : Value := .agg #[.int .i64 (h.cls : Int), .bool h.made, .int .i64 (h.tag : Int), .int .i64 (h.len : Int), .int .i64 (h.size : Int), .int .i64 d]
abbrev elmO (h : Hd) (d : Int) : Obj := .cells #[.int .i64 (h.cls : Int), .bool h.made, .int .i64 (h.tag : Int), .int .i64 (h.len : Int), .int .i64 (h.size : Int), .int .i64 d] 244

theorem end_any (h : Hd) (d : Int) (p : Nat) (w : World) (hp : p ≤ 281474976710656) (h1 : h.size ≤ 6) (h2 : h.len < 4294967296) :
    Calls Tryz.prog 175 #[elmV h d, .int .i64 (p : Int)] w fun r w' => r = .returned (.int .i64 ((p + h.size + h.len : Nat) : Int)) ∧ w' = w.alloc (elmO h d) := by
  have e1 : wrap64 ((p : Int) + (h.size : Int)) = ((p + h.size : Nat) : Int) := by unfold wrap64; omega
  have e2 : wrap64 (((p + h.size : Nat) : Int) + (h.len : Int)) = ((p + h.size + h.len : Nat) : Int) := by unfold wrap64; omega
  obtain ⟨A, hA⟩ : ∃ A : Int, ((p + h.size : Nat) : Int) = A := ⟨_, rfl⟩
  obtain ⟨E, hE⟩ : ∃ E : Int, ((p + h.size + h.len : Nat) : Int) = E := ⟨_, rfl⟩
  rw [hA] at e1
  rw [hA, hE] at e2
  rw [hE]
  have e2' : Hid (wrap64 (A + (h.len : Int)) = E) := e2
  clear hA hE hp h1 h2
  go_enter Tryz.func175, Tryz.ntmps175
  go_wp2
  go_ret
  exact ⟨by rw [← e2'.out]; rfl, rfl⟩

set_option maxHeartbeats 1000000 in
theorem content_any (s : ByteArray) (h : Hd) (d : Int) (p : Nat) (w : World) (hp : p ≤ 281474976710656) (h1 : h.size ≤ 6) (h2 : h.len < 4294967296) (h3 : p + h.size + h.len ≤ s.size) :
    Calls Tryz.prog 182 #[elmV h d, .string s, .int .i64 (p : Int)] w fun r w' => r = .returned (.string (s.extract (p + h.size) (p + h.size + h.len))) ∧ Below w.heap.size w w' := by
  have hEnd : ∀ W, Hid (Calls Tryz.prog 175 #[elmV h d, .int .i64 (p : Int)] W fun r w' => r = .returned (.int .i64 ((p + h.size + h.len : Nat) : Int)) ∧ w' = W.alloc (elmO h d)) := fun W => end_any h d p W hp h1 h2
  have e1 : wrap64 ((p : Int) + (h.size : Int)) = ((p + h.size : Nat) : Int) := by unfold wrap64; omega
  have e1' : IntKind.i64.wrap ((p : Int) + (h.size : Int)) = ((p + h.size : Nat) : Int) := by rw [IntKind.wrap_i64]; omega
  have hAE : p + h.size ≤ p + h.size + h.len := Nat.le_add_right _ _
  generalize p + h.size + h.len = E at *
  generalize p + h.size = A at *
  have a0 : (0 : Int) ≤ (A : Int) := Int.natCast_nonneg _
  have a1 : (A : Int) ≤ (E : Int) := Int.ofNat_le.2 hAE
  have a2 : (E : Int) ≤ (s.size : Int) := Int.ofNat_le.2 h3
  clear hp h1 h2
  go_enter Tryz.func182, Tryz.ntmps182
  go_wp2_with fail
  go_region_with (go_at_call 175; refine (hEnd _).out.mono ?_; rintro r w1 ⟨rfl, rfl⟩)
  all_goals
    go_wp2_with fail
    go_ret
    refine ⟨rfl, ?_⟩
    repeat' first | exact Below.refl _ _ | refine Below.drew ?_ | refine Below.alloc ?_ (by simp) _ | refine Below.alloc ?_ (by simp; omega) _
end Go.Proofs.YtkknenmpdimdbaaGreatDoor
