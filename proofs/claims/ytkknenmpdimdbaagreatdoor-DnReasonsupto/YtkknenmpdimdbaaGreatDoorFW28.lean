import Derived.Test.YtkknenmpdimdbaaGreatDoorFW27
import Derived.Deep.RegionWith
import Derived.Test.YtkknenmpdimdbaaGreatDoorFW26
namespace Go.Proofs.YtkknenmpdimdbaaGreatDoor
namespace BerMath
abbrev El := Nat × Hd × Nat
abbrev TR := List El × Option (Nat × Nat)
def elEnd (x : El) : Nat := x.1 + x.2.1.size + x.2.1.len
def endE : List El → Nat
 | [] => 0
 | x :: _ => elEnd x
def one (b : List UInt8) (K : Nat → Nat → Nat → TR) (m e p d : Nat) : TR :=
 if 64 < d then ([], some (25, p))
 else match wAt b p e with
  | .ok h => if h.made = true then ((p, h, d) :: (K (p + h.size + h.len) (p + h.size) (d + 1)).1, (K (p + h.size + h.len) (p + h.size) (d + 1)).2) else ([(p, h, d)], none)
  | .error (some f) => ([], some f)
  | .error none => ([], some (m, e))
def andThen (r : TR) (s : List El → TR) : TR :=
 match r.2 with
 | some f => (r.1, some f)
 | none => (r.1 ++ (s r.1).1, (s r.1).2)
def kids (b : List UInt8) : Nat → Nat → Nat → Nat → TR
 | 0, _, _, _ => ([], none)
 | n + 1, e, q, d => if e ≤ q then ([], none) else andThen (one b (kids b n) 26 e q d) (fun xs => kids b n e (endE xs) d)
theorem wAt_ok (b : List UInt8) (p e : Nat) (h : Hd) (hh : wAt b p e = .ok h) : 2 ≤ h.size ∧ h.size ≤ 6 ∧ h.len < 4294967296 ∧ h.cls ≤ 3 ∧ h.tag ≤ 30 ∧ p + h.size + h.len ≤ e := by
 unfold wAt at hh
 cases hx : hAt b p e with
 | ok x =>
  rw [hx] at hh
  dsimp only at hh
  split at hh
  ·cases hh
  ·injection hh with hh
   subst hh
   obtain ⟨h1, h2, h3, h4, h5, _⟩ := hAt_ok b p e x hx
   exact ⟨h1, h2, h3, h4, h5, by omega⟩
 | error o =>
  rw [hx] at hh
  cases o with
  | none => cases hh
  | some cq => obtain ⟨c, q⟩ := cq; cases hh
theorem wAt_er (b : List UInt8) (p e c q : Nat) (hh : wAt b p e = .error (some (c, q))) : c = 21 ∨ c = 22 ∨ c = 23 := by
 unfold wAt at hh
 cases hx : hAt b p e with
 | ok x =>
  rw [hx] at hh
  dsimp only at hh
  split at hh <;> cases hh
 | error o =>
  rw [hx] at hh
  cases o with
  | none => cases hh
  | some cq =>
   obtain ⟨c', q'⟩ := cq
   dsimp only at hh
   have e1 := er_inj hh
   unfold hAt at hx
   split at hx
   ·cases hx
   split at hx
   ·have h1 := (er_inj hx).1; omega
   split at hx
   ·cases hx
   split at hx
   ·have h1 := (er_inj hx).1; omega
   split at hx
   ·have h1 := (er_inj hx).1; omega
   split at hx
   ·cases hx
   split at hx
   ·cases hx
   ·cases hx
theorem one_deep (b : List UInt8) (K : Nat → Nat → Nat → TR) (m e p d : Nat) (h : 64 < d) : one b K m e p d = ([], some (25, p)) := by
 unfold one; rw [if_pos h]
theorem one_made (b : List UInt8) (K : Nat → Nat → Nat → TR) (m e p d : Nat) (h : Hd) (hd : ¬ 64 < d) (hw : wAt b p e = .ok h) (hm : h.made = true) :
  one b K m e p d = ((p, h, d) :: (K (p + h.size + h.len) (p + h.size) (d + 1)).1, (K (p + h.size + h.len) (p + h.size) (d + 1)).2) := by
 unfold one; rw [if_neg hd, hw]; dsimp only; rw [if_pos hm]
theorem one_leaf (b : List UInt8) (K : Nat → Nat → Nat → TR) (m e p d : Nat) (h : Hd) (hd : ¬ 64 < d) (hw : wAt b p e = .ok h) (hm : ¬ h.made = true) : one b K m e p d = ([(p, h, d)], none) := by
 unfold one; rw [if_neg hd, hw]; dsimp only; rw [if_neg hm]
theorem one_er (b : List UInt8) (K : Nat → Nat → Nat → TR) (m e p d : Nat) (f : Nat × Nat) (hd : ¬ 64 < d) (hw : wAt b p e = .error (some f)) : one b K m e p d = ([], some f) := by
 unfold one; rw [if_neg hd, hw]
theorem one_miss (b : List UInt8) (K : Nat → Nat → Nat → TR) (m e p d : Nat) (hd : ¬ 64 < d) (hw : wAt b p e = .error none) : one b K m e p d = ([], some (m, e)) := by
 unfold one; rw [if_neg hd, hw]
theorem kids_end (b : List UInt8) (n e q d : Nat) (h : e ≤ q) : kids b n e q d = ([], none) := by
 cases n with
 | zero => rfl
 | succ n => show (if e ≤ q then _ else _) = _; rw [if_pos h]
theorem kids_succ (b : List UInt8) (n e q d : Nat) (h : ¬ e ≤ q) : kids b (n + 1) e q d = andThen (one b (kids b n) 26 e q d) (fun xs => kids b n e (endE xs) d) := by
 show (if e ≤ q then _ else _) = _; rw [if_neg h]
theorem one_head (b : List UInt8) (K : Nat → Nat → Nat → TR) (m e p d : Nat) (xs : List El) (h : one b K m e p d = (xs, none)) :
  ∃ hd ys, wAt b p e = .ok hd ∧ xs = (p, hd, d) :: ys := by
 by_cases h1 : 64 < d
 ·rw [one_deep b K m e p d h1] at h; cases h
 cases hw : wAt b p e with
 | ok x =>
  by_cases hm : x.made = true
  ·rw [one_made b K m e p d x h1 hw hm] at h
   injection h with h _
   exact ⟨x, _, rfl, h.symm⟩
  ·rw [one_leaf b K m e p d x h1 hw hm] at h
   injection h with h _
   exact ⟨x, [], rfl, h.symm⟩
 | error o =>
  cases o with
  | some f => rw [one_er b K m e p d f h1 hw] at h; cases h
  | none => rw [one_miss b K m e p d h1 hw] at h; cases h
theorem kids_fuel (b : List UInt8) : ∀ (n m e q d : Nat), e ≤ q + n → e ≤ q + m → kids b n e q d = kids b m e q d := by
 intro n
 induction n with
 | zero => intro m e q d h1 _; rw [kids_end b 0 e q d (by omega), kids_end b m e q d (by omega)]
 | succ n ih =>
  intro m e q d h1 h2
  by_cases hq : e ≤ q
  ·rw [kids_end b _ e q d hq, kids_end b m e q d hq]
  cases m with
  | zero => omega
  | succ m =>
   rw [kids_succ b n e q d hq, kids_succ b m e q d hq]
   have ho : one b (kids b n) 26 e q d = one b (kids b m) 26 e q d := by
    by_cases hd : 64 < d
    ·rw [one_deep _ _ _ _ _ _ hd, one_deep _ _ _ _ _ _ hd]
    cases hw : wAt b q e with
    | ok x =>
     obtain ⟨k1, k2, k3, k4, k5, k6⟩ := wAt_ok b q e x hw
     by_cases hm : x.made = true
     ·rw [one_made _ _ _ _ _ _ x hd hw hm, one_made _ _ _ _ _ _ x hd hw hm, ih m _ _ _ (by omega) (by omega)]
     ·rw [one_leaf _ _ _ _ _ _ x hd hw hm, one_leaf _ _ _ _ _ _ x hd hw hm]
    | error o =>
     cases o with
     | some f => rw [one_er _ _ _ _ _ _ f hd hw, one_er _ _ _ _ _ _ f hd hw]
     | none => rw [one_miss _ _ _ _ _ _ hd hw, one_miss _ _ _ _ _ _ hd hw]
   rw [ho]
   obtain ⟨⟨xs, r⟩, hr⟩ : ∃ y, one b (kids b m) 26 e q d = y := ⟨_, rfl⟩
   rw [hr]
   cases r with
   | some f => rfl
   | none =>
    obtain ⟨x, ys, hw, rfl⟩ := one_head b _ _ _ _ _ _ hr
    obtain ⟨k1, k2, k3, k4, k5, k6⟩ := wAt_ok b q e x hw
    unfold andThen
    dsimp only [endE, elEnd]
    rw [ih m e (q + x.size + x.len) d (by omega) (by omega)]
theorem kids_len (b : List UInt8) : ∀ (n e q d : Nat), q ≤ e → 2 * (kids b n e q d).1.length + q ≤ e ∧ ∀ x ∈ (kids b n e q d).1, q ≤ x.1 ∧ elEnd x ≤ e ∧ 2 ≤ x.2.1.size ∧ x.2.1.size ≤ 6 ∧ x.2.1.len < 4294967296 ∧ x.2.1.cls ≤ 3 ∧ x.2.1.tag ≤ 30 ∧ x.2.2 ≤ 64 := by
 intro n
 induction n with
 | zero => intro e q d h; exact ⟨by simpa [kids] using h, fun x hx => by simp [kids] at hx⟩
 | succ n ih =>
  intro e q d hqe
  by_cases hq : e ≤ q
  ·rw [kids_end b _ e q d hq]; exact ⟨by simpa using hqe, fun x hx => by simp at hx⟩
  rw [kids_succ b n e q d hq]
  have ho : ∀ xs r, one b (kids b n) 26 e q d = (xs, r) → (r = none → 2 * xs.length + q ≤ endE xs ∧ endE xs ≤ e) ∧ 2 * xs.length + q ≤ e ∧ ∀ x ∈ xs, q ≤ x.1 ∧ elEnd x ≤ e ∧ 2 ≤ x.2.1.size ∧ x.2.1.size ≤ 6 ∧ x.2.1.len < 4294967296 ∧ x.2.1.cls ≤ 3 ∧ x.2.1.tag ≤ 30 ∧ x.2.2 ≤ 64 := by
   intro xs r h
   by_cases hd : 64 < d
   ·rw [one_deep _ _ _ _ _ _ hd] at h
    injection h with h1 h2
    subst h1 h2
    exact ⟨fun e => (by cases e), by simpa using hqe, fun x hx => by simp at hx⟩
   cases hw : wAt b q e with
   | ok x =>
    obtain ⟨k1, k2, k3, k4, k5, k6⟩ := wAt_ok b q e x hw
    by_cases hm : x.made = true
    ·rw [one_made _ _ _ _ _ _ x hd hw hm] at h
     injection h with h1 h2
     obtain ⟨i1, i2⟩ := ih (q + x.size + x.len) (q + x.size) (d + 1) (by omega)
     subst h1
     refine ⟨fun _ => ?_, ?_, ?_⟩
     ·simp only [List.length_cons, endE, elEnd]; omega
     ·simp only [List.length_cons]; omega
     ·intro y hy
      rcases List.mem_cons.1 hy with rfl | hy
      ·exact ⟨Nat.le_refl _, k6, k1, k2, k3, k4, k5, by show d ≤ 64; omega⟩
      ·obtain ⟨j1, j2, j3⟩ := i2 y hy
       exact ⟨by omega, by omega, j3⟩
    ·rw [one_leaf _ _ _ _ _ _ x hd hw hm] at h
     injection h with h1 h2
     subst h1
     refine ⟨fun _ => ?_, ?_, ?_⟩
     ·simp only [List.length_cons, List.length_nil, endE, elEnd]; omega
     ·simp only [List.length_cons, List.length_nil]; omega
     ·intro y hy
      rcases List.mem_cons.1 hy with rfl | hy
      ·exact ⟨Nat.le_refl _, k6, k1, k2, k3, k4, k5, by show d ≤ 64; omega⟩
      ·simp at hy
   | error o =>
    cases o with
    | some f =>
     rw [one_er _ _ _ _ _ _ f hd hw] at h
     injection h with h1 h2
     subst h1 h2
     exact ⟨fun e => (by cases e), by simpa using hqe, fun x hx => by simp at hx⟩
    | none =>
     rw [one_miss _ _ _ _ _ _ hd hw] at h
     injection h with h1 h2
     subst h1 h2
     exact ⟨fun e => (by cases e), by simpa using hqe, fun x hx => by simp at hx⟩
  obtain ⟨⟨xs, r⟩, hr⟩ : ∃ y, one b (kids b n) 26 e q d = y := ⟨_, rfl⟩
  rw [hr]
  obtain ⟨o1, o2, o3⟩ := ho xs r hr
  cases r with
  | some f => exact ⟨o2, o3⟩
  | none =>
   obtain ⟨o4, o5⟩ := o1 rfl
   obtain ⟨i1, i2⟩ := ih e (endE xs) d o5
   unfold andThen
   dsimp only
   refine ⟨by rw [List.length_append]; omega, fun y hy => ?_⟩
   rcases List.mem_append.1 hy with hy | hy
   ·exact o3 y hy
   ·obtain ⟨j1, j2, j3⟩ := i2 y hy
    exact ⟨by omega, j2, j3⟩
end BerMath
end Go.Proofs.YtkknenmpdimdbaaGreatDoor

namespace Go.Proofs.YtkknenmpdimdbaaGreatDoor
open Go.RowKit
open BerMath (Hd HR num hAt wAt)
abbrev elmV (h : Hd) (d : Int) : Value := .agg #[.int .i64 (h.cls : Int), .bool h.made, .int .i64 (h.tag : Int), .int .i64 (h.len : Int), .int .i64 (h.size : Int), .int .i64 d]
abbrev elmO (h : Hd) (d : Int) : Obj := .cells #[.int .i64 (h.cls : Int), .bool h.made, .int .i64 (h.tag : Int), .int .i64 (h.len : Int), .int .i64 (h.size : Int), .int .i64 d] 244
theorem end_any (h : Hd) (d : Int) (p : Nat) (w : World) (hp : p ≤ 281474976710656) (h1 : h.size ≤ 6) (h2 : h.len < 4294967296) :
  Calls Tryz.prog 175 #[elmV h d, .int .i64 (p : Int)] w fun r w' => r = .returned (.int .i64 ((p + h.size + h.len : Nat) : Int)) ∧ w' = w.alloc (elmO h d) := by
 have e1 : wrap64 ((p : Int) + (h.size : Int)) = ((p + h.size : Nat) : Int) := by unfold wrap64; omega
 have e2 : wrap64 (((p + h.size : Nat) : Int) + (h.len : Int)) = ((p + h.size + h.len : Nat) : Int) := by unfold wrap64; omega
 obtain ⟨A, hA⟩ : ∃ A : Int, ((p + h.size : Nat) : Int) = A := ⟨_, rfl⟩
 obtain ⟨E, hE⟩ : ∃ E : Int, ((p + h.size + h.len : Nat) : Int) = E := ⟨_, rfl⟩
 rw [hA] at e1
 rw [hA, hE] at e2
 rw [hE]
 have e2' : Hid (wrap64 (A + (h.len : Int)) = E) := e2
 clear hA hE hp h1 h2
 go_enter Tryz.func175, Tryz.ntmps175
 go_wp2
 go_ret
 exact ⟨by rw [← e2'.out]; rfl, rfl⟩
set_option maxHeartbeats 1000000 in
theorem content_any (s : ByteArray) (h : Hd) (d : Int) (p : Nat) (w : World) (hp : p ≤ 281474976710656) (h1 : h.size ≤ 6) (h2 : h.len < 4294967296) (h3 : p + h.size + h.len ≤ s.size) :
  Calls Tryz.prog 182 #[elmV h d, .string s, .int .i64 (p : Int)] w fun r w' => r = .returned (.string (s.extract (p + h.size) (p + h.size + h.len))) ∧ Below w.heap.size w w' := by
 have hEnd : ∀ W, Hid (Calls Tryz.prog 175 #[elmV h d, .int .i64 (p : Int)] W fun r w' => r = .returned (.int .i64 ((p + h.size + h.len : Nat) : Int)) ∧ w' = W.alloc (elmO h d)) := fun W => end_any h d p W hp h1 h2
 have e1 : wrap64 ((p : Int) + (h.size : Int)) = ((p + h.size : Nat) : Int) := by unfold wrap64; omega
 have e1' : IntKind.i64.wrap ((p : Int) + (h.size : Int)) = ((p + h.size : Nat) : Int) := by rw [IntKind.wrap_i64]; omega
 have hAE : p + h.size ≤ p + h.size + h.len := Nat.le_add_right _ _
 generalize p + h.size + h.len = E at *
 generalize p + h.size = A at *
 have a0 : (0 : Int) ≤ (A : Int) := Int.natCast_nonneg _
 have a1 : (A : Int) ≤ (E : Int) := Int.ofNat_le.2 hAE
 have a2 : (E : Int) ≤ (s.size : Int) := Int.ofNat_le.2 h3
 clear hp h1 h2
 go_enter Tryz.func182, Tryz.ntmps182
 go_wp2_with fail
 go_region_with (go_at_call 175; refine (hEnd _).out.mono ?_; rintro r w1 ⟨rfl, rfl⟩)
 all_goals
  go_wp2_with fail
  go_ret
  refine ⟨rfl, ?_⟩
  repeat' first | exact Below.refl _ _ | refine Below.drew ?_ | refine Below.alloc ?_ (by simp) _ | refine Below.alloc ?_ (by simp; omega) _
end Go.Proofs.YtkknenmpdimdbaaGreatDoor

namespace Go.Proofs.YtkknenmpdimdbaaGreatDoor
open Go.RowKit Go.Shelf
open BerMath (Hd HR num hAt wAt El TR elEnd endE one andThen kids)
attribute [local go_sem] Oper.semAt_some
set_option linter.unusedVariables false
abbrev encE (x : El) : Array Value := #[.int .i64 (x.1 : Int), elmV x.2.1 (x.2.2 : Int)]
def KW (W W' : World) : Prop := W.heap.size ≤ W'.heap.size ∧ ∀ (k : Nat) (cs : Array Value) (t : TypeId), (t = 250 ∨ t = 244) → W.heap[k]? = some (.cells cs t (0, 0)) → W'.heap[k]? = some (.cells cs t (0, 0))
theorem KW.refl (W : World) : KW W W := ⟨Nat.le_refl _, fun _ _ _ _ h => h⟩
theorem KW.trans {A B C : World} (h : KW A B) (h' : KW B C) : KW A C := ⟨Nat.le_trans h.1 h'.1, fun k cs t ht hk => h'.2 k cs t ht (h.2 k cs t ht hk)⟩
theorem KW.of_below {A B : World} (h : Below A.heap.size A B) : KW A B := ⟨h.size, fun k cs t _ hk => (h.block k (Array.getElem?_eq_some_iff.1 hk).1).trans hk⟩
theorem own_below {β : Type} {B : Nat} {J : β → World → Prop} (h : OwnFrom B J) {s : β} {W W' : World} (hs : J s W) (hb : Below W.heap.size W W') : J s W' :=
 h s W W' none hs ⟨hb.os, hb.tape, hb.output, hb.size, fun k hk _ => hb.block k hk⟩ (fun r e => by cases e)
theorem yield_any {m : Nat} (m' : Nat) {P : Program} {l : Nat} {args : Array Value} {W : World} {R : Ending → World → Prop} (h : YieldAt Fence.wide m P l args W R) : YieldAt Fence.wide m' P l args W R := by
 obtain ⟨fn, tmps, assign, body, hy, hR⟩ := h
 exact ⟨fn, tmps, assign, body, hy, hR.1, fun c cs _ => hR.2 c cs (room_wide _)⟩
def WkQ (J Jx : List El → World → Prop) (pre : List El) (R : TR) (W : World) (r : Ending) (W' : World) : Prop :=
 (R.2 = none ∧ r = .returned (.tuple #[.int .i64 (endE R.1 : Int), .bool true]) ∧ J (pre ++ R.1) W' ∧ KW W W') ∨
 (∃ (ys : List El) (z : Int), ys <+: R.1 ∧ r = .returned (.tuple #[.int .i64 z, .bool false]) ∧ Jx (pre ++ ys) W') ∨
 (∃ f, R.2 = some f ∧ r = gaveUp (f.1 : Int) (f.2 : Int) ∧ J (pre ++ R.1) W')
theorem andThen_none {r : TR} {s : List El → TR} (h : r.2 = none) : andThen r s = (r.1 ++ (s r.1).1, (s r.1).2) := by
 obtain ⟨a, b⟩ := r
 dsimp only at h
 subst h
 rfl
theorem andThen_some {r : TR} {s : List El → TR} {f : Nat × Nat} (h : r.2 = some f) : andThen r s = (r.1, some f) := by
 obtain ⟨a, b⟩ := r
 dsimp only at h
 subst h
 rfl
theorem one_end (b : List UInt8) (K : Nat → Nat → Nat → TR) (m e p d : Nat) (h : (one b K m e p d).2 = none) : ∃ hd, wAt b p e = .ok hd ∧ endE (one b K m e p d).1 = p + hd.size + hd.len := by
 obtain ⟨⟨xs, r⟩, hr⟩ : ∃ y, one b K m e p d = y := ⟨_, rfl⟩
 rw [hr] at h ⊢
 dsimp only at h
 subst h
 obtain ⟨x, ys, hw, rfl⟩ := BerMath.one_head b K m e p d xs hr
 exact ⟨x, hw, rfl⟩
theorem w_to (p x A : Nat) (h : p + x ≤ 281474976710656) (hA : p + x = A) : wrap64 ((p : Int) + (x : Int)) = (A : Int) := by unfold wrap64; omega
theorem w_d1 (d : Nat) (h : d ≤ 65) : wrap64 ((d : Int) + 1) = ((d + 1 : Nat) : Int) := by unfold wrap64; omega
def msr (E : Nat) (pv mv : Value) : Nat :=
 match mv with
 | .bool true => E + 1 - (intOf pv).toNat
 | _ => 0
theorem msr_lt {E q q' : Nat} (h : q < q') (h' : q < E) : msr E (.int .i64 (q' : Int)) (.bool true) < msr E (.int .i64 (q : Int)) (.bool true) := by
 show E + 1 - ((q' : Int)).toNat < E + 1 - ((q : Int)).toNat
 rw [Int.toNat_natCast, Int.toNat_natCast]
 omega
theorem msr_no {E q : Nat} {z : Int} (h' : q < E) : msr E (.int .i64 z) (.bool false) < msr E (.int .i64 (q : Int)) (.bool true) := by
 show 0 < E + 1 - ((q : Int)).toNat
 rw [Int.toNat_natCast]
 omega
def LI (s : ByteArray) (J Jx : List El → World → Prop) (pre : List El) (x : El) (K : TR) (W : World) (n A E d ib : Nat) (mb : Bool) (q : Int) (wr : World) : Prop :=
 (mb = true ∧ ∃ (qn k : Nat) (acc : List El), q = (qn : Int) ∧ k ≤ n ∧ A ≤ qn ∧ qn ≤ E ∧ E ≤ qn + k ∧ K = (acc ++ (kids s.data.toList k E qn (d + 1)).1, (kids s.data.toList k E qn (d + 1)).2) ∧ J (pre ++ x :: acc) wr ∧ KW W wr ∧ wr.heap[ib]? = some (strO s (E : Int) 26)) ∨
 (mb = false ∧ ∃ ys, ys <+: x :: K.1 ∧ Jx (pre ++ ys) wr)
set_option maxRecDepth 100000 in
set_option maxHeartbeats 4000000 in
theorem walk_any (s : ByteArray) (hm : s.size ≤ 281474976710656) (l B0 : Nat) (J Jx : List El → World → Prop) (Kp : World → World → Prop) (L : List El) (hJ : OwnFrom B0 J) (hJx : OwnFrom B0 Jx) (hKp : ∀ W W', Kp W W' → KW W W')
  (hY : ∀ (pre : List El) (x : El) (W1 : World), J pre W1 → (pre ++ [x]) <+: L → YieldAt Fence.wide 0 Tryz.prog l (encE x) W1 fun e W' => Kp W1 W' ∧ ((e = .returned (.bool true) ∧ J (pre ++ [x]) W') ∨ (e = .returned (.bool false) ∧ Jx (pre ++ [x]) W'))) :
  ∀ (n m e p d : Nat) (pre : List El) (W : World), e ≤ s.size → p ≤ e → e ≤ p + n + 2 → d ≤ 65 → J pre W → (pre ++ (one s.data.toList (kids s.data.toList n) m e p d).1) <+: L →
   CallsIn Fence.wide 0 Tryz.prog 180 #[strV s (e : Int) (m : Int), .int .i64 (p : Int), .int .i64 (d : Int), .func (.yield l) #[] #[]] W (WkQ J Jx pre (one s.data.toList (kids s.data.toList n) m e p d) W) := by
 intro n
 induction n using Nat.strongRecOn with
 | ind n ih =>
 intro m e p d pre W hes hpe hf hd65 hJ0 hL
 have hdd : ∀ k : Nat, (Fence.wide.depth.isSome = true → 1 ≤ k) := fun k h => (by cases h)
 have hmix : Tryz.prog.follows .mixedOrders = true := by kernel_rfl
 have hWB : Below W.heap.size W (W.alloc (strO s (e : Int) (m : Int))) := (Below.refl _ _).alloc (Nat.le_refl _) _
 by_cases hd : 64 < d
 ·rw [BerMath.one_deep _ _ _ _ _ _ hd] at hL ⊢
  have d1 : decide ((d : Int) > 64) = true := decide_eq_true (by omega)
  have d2 : (d : Int) > 64 := by omega
  have hfin : Hid (J (pre ++ []) (W.alloc (strO s (e : Int) (m : Int)))) := by unfold Hid; rw [List.append_nil]; exact own_below hJ hJ0 hWB
  clear hf hd hL hJ0
  refine callsIn_of_wp Tryz.func180 rfl trivial ?_ rfl
  simp only [Tryz.ntmps180, List.size_toArray, List.length_cons, List.length_nil, Nat.reduceAdd, Nat.reduceSub, Array.replicate_succ, Array.replicate_zero, List.push_toArray, List.append_toArray, List.nil_append, List.cons_append]
  gi_wp2
  exact ⟨rfl, Or.inr (Or.inr ⟨(25, p), rfl, rfl, hfin.out⟩)⟩
 have hWh : ∀ W', Hid (Calls Tryz.prog 184 #[strV s (e : Int) (m : Int), .int .i64 (p : Int)] W' fun r w' => r = wholeR s.data.toList p e (m : Int) ∧ Below W'.heap.size W' w') := fun W' => whole_any s e p (m : Int) W' hes hm hpe
 have d2 : ¬ (d : Int) > 64 := by omega
 cases hw : wAt s.data.toList p e with
 | error o =>
  obtain ⟨c, q, hone, hwr⟩ : ∃ c q : Nat, one s.data.toList (kids s.data.toList n) m e p d = ([], some (c, q)) ∧ wholeR s.data.toList p e (m : Int) = gaveUp (c : Int) (q : Int) := by
   cases o with
   | some f => exact ⟨f.1, f.2, BerMath.one_er _ _ _ _ _ _ f hd hw, by unfold wholeR; rw [hw]⟩
   | none => exact ⟨m, e, BerMath.one_miss _ _ _ _ _ _ hd hw, by unfold wholeR; rw [hw]⟩
  rw [hone] at hL ⊢
  rw [hwr] at hWh
  have hfin : ∀ w2, Below (W.alloc (strO s (e : Int) (m : Int))).heap.size (W.alloc (strO s (e : Int) (m : Int))) w2 → J (pre ++ []) w2 := fun w2 hb2 => by rw [List.append_nil]; exact own_below hJ (own_below hJ hJ0 hWB) hb2
  have hfin' : Hid (∀ w2, Below (W.alloc (strO s (e : Int) (m : Int))).heap.size (W.alloc (strO s (e : Int) (m : Int))) w2 → J (pre ++ []) w2) := hfin
  clear hf hd hL hJ0 hw hone hwr hfin
  refine callsIn_of_wp Tryz.func180 rfl trivial ?_ rfl
  simp only [Tryz.ntmps180, List.size_toArray, List.length_cons, List.length_nil, Nat.reduceAdd, Nat.reduceSub, Array.replicate_succ, Array.replicate_zero, List.push_toArray, List.append_toArray, List.nil_append, List.cons_append]
  gi_wp2_with (refine ⟨trivial, rfl, ?_⟩; gi_at_call 184; refine (callsIn_wide.2 (hWh _).out).mono ?_; rintro r w2 ⟨rfl, hb2⟩)
  exact ⟨rfl, Or.inr (Or.inr ⟨(c, q), rfl, rfl, hfin'.out _ hb2⟩)⟩
 | ok h =>
  obtain ⟨k1, k2, k3, k4, k5, k6⟩ := BerMath.wAt_ok _ _ _ _ hw
  have hwr : wholeR s.data.toList p e (m : Int) = .returned (hdV h) := by unfold wholeR; rw [hw]
  rw [hwr] at hWh
  have hv : hdV h = .agg #[.int .i64 (h.cls : Int), .bool h.made, .int .i64 (h.tag : Int), .int .i64 (h.len : Int), .int .i64 (h.size : Int)] := rfl
  rw [hv] at hWh
  obtain ⟨E, hE⟩ : ∃ E, p + h.size + h.len = E := ⟨_, rfl⟩
  have hEnd : ∀ W', Hid (Calls Tryz.prog 175 #[elmV h (d : Int), .int .i64 (p : Int)] W' fun r w' => r = .returned (.int .i64 (E : Int)) ∧ w' = W'.alloc (elmO h (d : Int))) := fun W' => by rw [← hE]; exact end_any h (d : Int) p W' (by omega) k2 k3
  obtain ⟨rest, hrest⟩ : ∃ rest, (one s.data.toList (kids s.data.toList n) m e p d).1 = (p, h, d) :: rest := by
   by_cases hmd : h.made = true
   ·rw [BerMath.one_made _ _ _ _ _ _ h hd hw hmd]; exact ⟨_, rfl⟩
   ·rw [BerMath.one_leaf _ _ _ _ _ _ h hd hw hmd]; exact ⟨_, rfl⟩
  have hYx : ∀ W1, J pre W1 → Hid (YieldAt Fence.wide 0 Tryz.prog l #[.int .i64 (p : Int), elmV h (d : Int)] W1 fun e W' => ∃ b, e = .returned (.bool b) ∧ Hid (KW W1 W' ∧ ((b = true ∧ J (pre ++ [(p, h, d)]) W') ∨ (b = false ∧ Jx (pre ++ [(p, h, d)]) W')))) := fun W1 hj => by
   have hpx : (pre ++ [(p, h, d)]) <+: L := by
    refine List.IsPrefix.trans ?_ hL
    rw [hrest]
    exact ⟨rest, by simp⟩
   refine YieldAt.mono (hY pre (p, h, d) W1 hj hpx) ?_
   rintro e' W' ⟨g2, ⟨rfl, g1⟩ | ⟨rfl, g1⟩⟩
   ·exact ⟨true, rfl, hKp _ _ g2, Or.inl ⟨rfl, g1⟩⟩
   ·exact ⟨false, rfl, hKp _ _ g2, Or.inr ⟨rfl, g1⟩⟩
  have hWk : ∀ w2, Below (W.alloc (strO s (e : Int) (m : Int))).heap.size (W.alloc (strO s (e : Int) (m : Int))) w2 → Hid (J pre ((w2.alloc (elmO h (d : Int))).alloc (elmO h (d : Int))).drew ∧ KW W ((w2.alloc (elmO h (d : Int))).alloc (elmO h (d : Int))).drew ∧ w2.heap.size < ((w2.alloc (elmO h (d : Int))).alloc (elmO h (d : Int))).drew.heap.size ∧ ((w2.alloc (elmO h (d : Int))).alloc (elmO h (d : Int))).drew.heap[w2.heap.size]? = some (elmO h (d : Int)) ∧ ((w2.alloc (elmO h (d : Int))).alloc (elmO h (d : Int))).drew.heap[W.heap.size]? = some (strO s (e : Int) (m : Int))) := fun w2 hb2 => by
   have q1 : Below W.heap.size W w2 := hWB.trans (hb2.mono (by simp))
   have q2 : Below w2.heap.size w2 ((w2.alloc (elmO h (d : Int))).alloc (elmO h (d : Int))).drew := (((Below.refl _ w2).alloc (Nat.le_refl _) _).alloc (by simp) _).drew
   have q3 : W.heap.size < w2.heap.size := by have := hb2.size; simp at this; omega
   refine ⟨own_below hJ (own_below hJ hJ0 q1) q2, (KW.of_below q1).trans (KW.of_below q2), by show _ < ((w2.alloc (elmO h (d : Int))).alloc (elmO h (d : Int))).heap.size; simp; omega, ?_, ?_⟩
   ·show ((w2.alloc (elmO h (d : Int))).alloc (elmO h (d : Int))).heap[w2.heap.size]? = _
    rw [Below.heap_alloc _ _ _ (by simp)]
    exact World.alloc_heap_new w2 _
   ·rw [q2.block _ q3, hb2.block _ (by simp)]
    exact World.alloc_heap_new W _
  have hE' : Hid (p + h.size + h.len = E) := hE
  obtain ⟨Q0, hQ0⟩ : ∃ Q0, WkQ J Jx pre (one s.data.toList (kids s.data.toList n) m e p d) W = Q0 := ⟨_, rfl⟩
  rw [hQ0]
  have hQ : Hid (WkQ J Jx pre (one s.data.toList (kids s.data.toList n) m e p d) W = Q0) := hQ0
  clear hJ0 hE hQ0
  refine callsIn_of_wp Tryz.func180 rfl trivial ?_ rfl
  simp only [Tryz.ntmps180, List.size_toArray, List.length_cons, List.length_nil, Nat.reduceAdd, Nat.reduceSub, Array.replicate_succ, Array.replicate_zero, List.push_toArray, List.append_toArray, List.nil_append, List.cons_append]
  gi_wp2_with (refine ⟨trivial, rfl, ?_⟩; gi_at_call 184; refine (callsIn_wide.2 (hWh _).out).mono ?_; rintro r w2 ⟨rfl, hb2⟩)
  obtain ⟨j1, j2, j3, j4, j5⟩ := (hWk w2 hb2).out
  obtain ⟨fn, tmps, assign, body, hy, hR⟩ := (hYx _ j1).out
  gi_region_with_o (first
   | (refine ⟨trivial, rfl, ?_⟩; gi_at_call 175; refine (callsIn_wide.2 (hEnd _).out).mono ?_; rintro r w3 ⟨rfl, rfl⟩)
   | (refine ⟨rfl, ?_⟩; refine hR.mono ?_; rintro r w4 ⟨b, rfl, hb4⟩))
  all_goals
   have g1 := hb4.out.1
   have g2 : w4.heap[w2.heap.size]? = some (elmO h (d : Int)) := g1.2 _ _ _ (Or.inr rfl) j4
   have g3 : w4.heap[W.heap.size]? = some (strO s (e : Int) (m : Int)) := g1.2 _ _ _ (Or.inl rfl) j5
   have c1 : w4.cell? ⟨w2.heap.size, 1, none⟩ = some (.bool h.made) := by simp [World.cell?, g2]
   have c4 : w4.cell? ⟨w2.heap.size, 4, none⟩ = some (.int .i64 (h.size : Int)) := by simp [World.cell?, g2]
   have c0 : w4.cell? ⟨W.heap.size, 0, none⟩ = some (.string s) := by simp [World.cell?, g3]
   have hKW : Hid (KW W w4) := j2.trans g1
   clear g1 g2 g3 hR hy j1 j2 j3 j4 j5 hWh hYx hWk hEnd hb2 hWB hv hwr
   by_cases hmd : h.made = true
   ·rw [hmd] at c1
    obtain ⟨A, hA⟩ : ∃ A, p + h.size = A := ⟨_, rfl⟩
    have hAw' : Hid (wrap64 ((p : Int) + (h.size : Int)) = (A : Int)) := w_to p h.size A (by omega) hA
    have hQ0 := hQ.out
    rw [BerMath.one_made _ _ _ _ _ _ h hd hw hmd] at hL hQ0
    rw [hE'.out] at hL hQ0
    have hAE : A + h.len = E := by rw [← hA, ← hE'.out]
    rw [hA] at hL hQ0
    obtain ⟨K, hK⟩ : ∃ K, kids s.data.toList n E A (d + 1) = K := ⟨_, rfl⟩
    rw [hK] at hL hQ0
    have F1 : Hid (∀ w', J (pre ++ (p, h, d) :: K.1) w' → K.2 = none → KW W w' → Q0 (.returned (.tuple #[.int .i64 (E : Int), .bool true])) w') := fun w' q1 q2 q3 => by
     rw [← hQ0]
     refine Or.inl ⟨q2, ?_, q1, q3⟩
     rw [show endE ((p, h, d) :: K.1) = E from hE'.out]
    have F2 : Hid (∀ ys w', ys <+: (p, h, d) :: K.1 → Jx (pre ++ ys) w' → Q0 (.returned (.tuple #[.int .i64 (E : Int), .bool false])) w') := fun ys w' q1 q2 => by
     rw [← hQ0]
     exact Or.inr (Or.inl ⟨ys, _, q1, rfl, q2⟩)
    have F3 : Hid (∀ (f : Nat × Nat) w', K.2 = some f → J (pre ++ (p, h, d) :: K.1) w' → Q0 (gaveUp (f.1 : Int) (f.2 : Int)) w') := fun f w' q1 q2 => by
     rw [← hQ0]
     exact Or.inr (Or.inr ⟨f, q1, rfl, q2⟩)
    have hdw' : Hid (wrap64 ((d : Int) + 1) = ((d + 1 : Nat) : Int)) := w_d1 d hd65
    have hEs : E ≤ s.size := by have := hE'.out; omega
    obtain ⟨wI, hwI⟩ : ∃ wI, w4.alloc (strO s (E : Int) 26) = wI := ⟨_, rfl⟩
    have hbI : Below w4.heap.size w4 wI := by rw [← hwI]; exact (Below.refl _ _).alloc (Nat.le_refl _) _
    have hiI : wI.heap[w4.heap.size]? = some (strO s (E : Int) 26) := by rw [← hwI]; exact World.alloc_heap_new w4 _
    have c4I : wI.cell? ⟨w2.heap.size, 4, none⟩ = some (.int .i64 (h.size : Int)) := by rw [hbI.cell (World.block_lt_of_cell? w4 _ c4)]; exact c4
    have hst : Hid (LI s J Jx pre (p, h, d) K W n A E d w4.heap.size b (A : Int) wI) := by
     rcases hb4.out.2 with ⟨hbt, hj⟩ | ⟨hbf, hj⟩
     ·exact Or.inl ⟨hbt, A, n, [], rfl, Nat.le_refl _, Nat.le_refl _, by omega, by have := hE'.out; omega, by rw [hK]; rfl, own_below hJ hj hbI, hKW.out.trans (KW.of_below hbI), hiI⟩
     ·exact Or.inr ⟨hbf, [(p, h, d)], ⟨K.1, rfl⟩, own_below hJx hj hbI⟩
    have hL' : Hid ((pre ++ (p, h, d) :: K.1) <+: L) := hL
    have hfE : Hid (E ≤ A + n ∧ h.len ≤ n) := by have := hE'.out; exact ⟨by omega, by omega⟩
    have hd' : Hid (d ≤ 64) := Nat.not_lt.1 hd
    have hEs' : Hid (E ≤ s.size) := hEs
    have hAE' : Hid (A + h.len = E) := hAE
    clear hQ hQ0 hL hbI hiI hJ hb4 hK hrest hAE hA hEs hf hd hKW hes hpe hd65 k1 k2 k3 k4 k5 k6 hw hJx
    have hAw := hAw'.out
    gi_wp2
    clear hAw
    gi_loopw [1, 9] (fun pv mv wr => ∃ (q : Int) (mb : Bool), pv = .int .i64 q ∧ mv = .bool mb ∧ Hid (LI s J Jx pre (p, h, d) K W n A E d w4.heap.size mb q wr)) (fun pv mv _ => msr E pv mv)
    case atStart => exact ⟨_, _, rfl, rfl, by unfold Hid; rw [hAw'.out]; exact hst.out⟩
    case round =>
     clear hst hwI c0 c1 c4 c4I
     obtain ⟨q, mb, rfl, rfl, hLI⟩ := hrel
     rcases hLI.out with ⟨rfl, qn, k, acc, rfl, hkn, hAq, hqE, hEk, hKe, hj, hkw, hib⟩ | ⟨rfl, ys, hys, hj⟩
     ·by_cases hlt : qn < E
      ·obtain ⟨k', rfl⟩ : ∃ k', k = k' + 1 := ⟨k - 1, by omega⟩
       rw [BerMath.kids_succ _ _ _ _ _ (by omega)] at hKe
       obtain ⟨O, hO⟩ : ∃ O, one s.data.toList (kids s.data.toList k') 26 E qn (d + 1) = O := ⟨_, rfl⟩
       rw [hO] at hKe
       have hpreO : (pre ++ (p, h, d) :: acc ++ O.1) <+: L := by
        refine List.IsPrefix.trans ?_ hL'.out
        rw [hKe]
        cases hO2 : O.2 with
        | none => rw [andThen_none hO2]; exact ⟨(kids s.data.toList k' E (endE O.1) (d + 1)).1, by simp⟩
        | some f => rw [andThen_some hO2]; exact ⟨[], by simp⟩
       have hIH := ih k' (by omega) 26 E qn (d + 1) (pre ++ (p, h, d) :: acc) wr hEs'.out hqE (by omega) (by have := hd'.out; omega) hj (by rw [hO]; exact hpreO)
       rw [hO] at hIH
       have hib' : wr.heap[w4.heap.size]? = some (.cells #[.string s, .int .i64 (E : Int), .int .i64 26] 250 (0, 0)) := hib
       have i0 : wr.cell? ⟨w4.heap.size, 0, none⟩ = some (.string s) := by simp [World.cell?, hib']
       have i1 : wr.cell? ⟨w4.heap.size, 1, none⟩ = some (.int .i64 (E : Int)) := by simp [World.cell?, hib']
       have i2 : wr.cell? ⟨w4.heap.size, 2, none⟩ = some (.int .i64 26) := by simp [World.cell?, hib']
       have q1 : (qn : Int) < (E : Int) := by omega
       have G1 : Hid (∀ w6, O.2 = none → J ((pre ++ (p, h, d) :: acc) ++ O.1) w6 → KW wr w6 → qn < endE O.1 ∧ LI s J Jx pre (p, h, d) K W n A E d w4.heap.size true (endE O.1 : Int) w6) := fun w6 g1 g2 g3 => by
        obtain ⟨hd', hw', he'⟩ := one_end s.data.toList (kids s.data.toList k') 26 E qn (d + 1) (by rw [hO]; exact g1)
        obtain ⟨z1, z2, z3, z4, z5, z6⟩ := BerMath.wAt_ok _ _ _ _ hw'
        rw [hO] at he'
        refine ⟨by omega, Or.inl ⟨rfl, endE O.1, k', acc ++ O.1, rfl, by omega, by omega, by omega, by omega, ?_, by simpa [List.append_assoc] using g2, hkw.trans g3, g3.2 _ _ _ (Or.inl rfl) hib'⟩⟩
        rw [hKe, andThen_none g1, List.append_assoc]
       have G2 : Hid (∀ ys w6 (z : Int), ys <+: O.1 → Jx ((pre ++ (p, h, d) :: acc) ++ ys) w6 → LI s J Jx pre (p, h, d) K W n A E d w4.heap.size false z w6) := fun ys w6 z g1 g2 => by
        refine Or.inr ⟨rfl, (p, h, d) :: acc ++ ys, ?_, by simpa [List.append_assoc] using g2⟩
        obtain ⟨zs, hzs⟩ := g1
        rw [hKe]
        cases hO2 : O.2 with
        | none => rw [andThen_none hO2]; exact ⟨zs ++ (kids s.data.toList k' E (endE O.1) (d + 1)).1, by simp [← hzs]⟩
        | some f => rw [andThen_some hO2]; exact ⟨zs, by simp [← hzs]⟩
       have G3 : Hid (∀ (f : Nat × Nat) w6, O.2 = some f → J ((pre ++ (p, h, d) :: acc) ++ O.1) w6 → Q0 (gaveUp (f.1 : Int) (f.2 : Int)) w6) := fun f w6 g1 g2 => by
        refine F3.out f w6 (by rw [hKe, andThen_some g1]) ?_
        rw [hKe, andThen_some g1]
        simpa [List.append_assoc] using g2
       have hqn' : Hid (qn < E) := hlt
       clear ih hLI hKe hj hkw hib hib' hpreO hO hlt hEk hqE hAq hkn F1 F2 F3
       have hdw := hdw'.out
       gi_wp2_with (refine ⟨trivial, rfl, ?_⟩; gi_at_call 180; refine hIH.mono ?_; clear hIH; rintro r w6 (⟨g1, rfl, g2, g3⟩ | ⟨ys, z, g1, rfl, g2⟩ | ⟨f, g1, rfl, g2⟩))
       ·have hg := G1.out w6 g1 g2 g3
        have hg1 : Hid (qn < endE O.1) := hg.1
        have hg2 : Hid (LI s J Jx pre (p, h, d) K W n A E d w4.heap.size true (endE O.1 : Int) w6) := hg.2
        clear hg g1 g2 g3 G1 G2 G3 i0 i1 i2
        gi_wp2
        go_roundw
        case rel => exact ⟨_, _, rfl, rfl, hg2⟩
        case measure => exact msr_lt hg1.out hqn'.out
       ·have hg2 : Hid (LI s J Jx pre (p, h, d) K W n A E d w4.heap.size false z w6) := G2.out ys w6 z g1 g2
        clear g1 g2 G1 G2 G3 i0 i1 i2
        gi_wp2
        go_roundw
        case rel => exact ⟨_, _, rfl, rfl, hg2⟩
        case measure => exact msr_no hqn'.out
       ·exact ⟨rfl, G3.out f w6 g1 g2⟩
      ·have hqe : qn = E := by omega
       subst hqe
       rw [BerMath.kids_end _ _ _ _ _ (Nat.le_refl _)] at hKe
       have hfin : Hid (Q0 (.returned (.tuple #[.int .i64 (qn : Int), .bool true])) wr) := F1.out wr (by rw [hKe]; simpa using hj) (by rw [hKe]) hkw
       have q1 : ¬ (qn : Int) < (qn : Int) := by omega
       clear F1 F2 F3 hLI hKe hj hkw hib ih
       gi_wp2
       exact hfin.out
     ·have hfin : Hid (Q0 (.returned (.tuple #[.int .i64 (E : Int), .bool false])) wr) := F2.out ys wr hys hj
      clear F1 F2 F3 hLI hys hj ih
      gi_wp2
      exact hfin.out
   ·have hmf : h.made = false := by simpa using hmd
    rw [hmf] at c1
    have hQ0 := hQ.out
    rw [BerMath.one_leaf _ _ _ _ _ _ h hd hw hmd] at hQ0
    have hfin : Hid (Q0 (.returned (.tuple #[.int .i64 (E : Int), .bool b])) w4) := by
     unfold Hid
     rw [← hQ0]
     rcases hb4.out.2 with ⟨rfl, hj⟩ | ⟨rfl, hj⟩
     ·exact Or.inl ⟨rfl, by rw [show endE [(p, h, d)] = E from hE'.out], hj, hKW.out⟩
     ·exact Or.inr (Or.inl ⟨[(p, h, d)], E, List.prefix_refl _, rfl, hj⟩)
    clear hL hrest c4 c0 hQ hQ0 hb4 hKW
    gi_wp2
    exact hfin.out
end Go.Proofs.YtkknenmpdimdbaaGreatDoor
