import Derived.Test.YtkknenmpdimdbaaGreatDoorFX27
import Derived.Defers
import Derived.Recover
import Derived.Laws.Pointers
import Derived.Shelf.Abstract
import Derived.Deep.RegionWith
namespace Go.Proofs.YtkknenmpdimdbaaGreatDoor
open Go.RowKit
open BerMath (Hd HR num hAt)
def hdV (h : Hd) : Value := .agg #[.int .i64 (h.cls : Int), .bool h.made, .int .i64 (h.tag : Int), .int .i64 (h.len : Int), .int .i64 (h.size : Int)]
def headR (b : List UInt8) (p e : Nat) (m : Int) : Ending :=
 match hAt b p e with
 | .ok h => .returned (hdV h)
 | .error (some (c, q)) => gaveUp c q
 | .error none => gaveUp m e
theorem and31 (n : Nat) (h : n < 256) : bits .and .u8 (n : Int) 31 = ((n % 32 : Nat) : Int) := by
 have e := u8_and_nat n 31 h (by omega)
 rw [show (31 : Int) = ((31 : Nat) : Int) from rfl, e]
 congr 1
 have := Nat.and_two_pow_sub_one_eq_mod n 5
 simpa using this
theorem and32 (n : Nat) (h : n < 256) : bits .and .u8 (n : Int) 32 = ((n / 32 % 2 * 32 : Nat) : Int) := by
 have e := u8_and_nat n 32 h (by omega)
 rw [show (32 : Int) = ((32 : Nat) : Int) from rfl, e]
 congr 1
 have : ∀ n : Fin 256, n.val &&& 32 = n.val / 32 % 2 * 32 := by decide +kernel
 exact this ⟨n, h⟩
theorem len_parts (b : List UInt8) (p e : Nat) (m : Int) (hp : p < e) (ht : ¬ (b.getD p 0).toNat % 32 = 31) :
  (∃ c q, lenR b p e m = gaveUp c q ∧ headR b p e m = gaveUp c q) ∨
  (∃ len size : Nat, lenR b p e m = .returned (.tuple #[.int .i64 (len : Int), .int .i64 (size : Int)]) ∧ headR b p e m = .returned (hdV ⟨(b.getD p 0).toNat / 64, decide ((b.getD p 0).toNat / 32 % 2 = 1), (b.getD p 0).toNat % 32, len, size⟩)) := by
 unfold lenR headR hAt
 rw [if_neg (by omega : ¬ e ≤ p), if_neg ht]
 by_cases h1 : e ≤ p + 1
 ·rw [if_pos h1, if_pos h1]
  exact Or.inl ⟨_, _, rfl, rfl⟩
 rw [if_neg h1, if_neg h1]
 by_cases h2 : (b.getD (p + 1) 0).toNat = 128
 ·rw [if_pos h2, if_pos h2]
  exact Or.inl ⟨_, _, rfl, rfl⟩
 rw [if_neg h2, if_neg h2]
 by_cases h3 : 132 < (b.getD (p + 1) 0).toNat
 ·rw [if_pos h3, if_pos h3]
  exact Or.inl ⟨_, _, rfl, rfl⟩
 rw [if_neg h3, if_neg h3]
 by_cases h4 : (b.getD (p + 1) 0).toNat < 128
 ·rw [if_pos h4, if_pos h4]
  exact Or.inr ⟨_, 2, rfl, rfl⟩
 rw [if_neg h4, if_neg h4]
 by_cases h5 : e < p + ((b.getD (p + 1) 0).toNat - 126)
 ·rw [if_pos h5, if_pos h5]
  exact Or.inl ⟨_, _, rfl, rfl⟩
 rw [if_neg h5, if_neg h5]
 exact Or.inr ⟨_, _, rfl, rfl⟩
set_option maxRecDepth 100000 in
set_option maxHeartbeats 1000000 in
theorem header_any (s : ByteArray) (e p : Nat) (m : Int) (w : World) (he : e ≤ s.size) (hm : s.size ≤ 281474976710656) (hp : p ≤ e) :
  Calls Tryz.prog 185 #[strV s (e : Int) m, .int .i64 (p : Int)] w fun r w' => r = headR s.data.toList p e m ∧ Below w.heap.size w w' := by
 have hsub : wrap64 ((e : Int) - (p : Int)) = (e : Int) - (p : Int) := by unfold wrap64; omega
 have p0 : (0 : Int) ≤ (p : Int) := by omega
 by_cases h1 : e ≤ p
 ·have hr : headR s.data.toList p e m = gaveUp m e := by unfold headR hAt; rw [if_pos h1]
  rw [hr]
  have d1 : decide ((e : Int) - (p : Int) < 1) = true := decide_eq_true (by omega)
  clear h1 hp he hm hr
  go_enter Tryz.func185, Tryz.ntmps185
  go_wp2_with fail
  refine (need_bad _ _ _ _ _ _ d1 hsub).mono ?_
  rintro r w1 ⟨rfl, rfl⟩
  exact ⟨rfl, rfl, (((Below.refl _ _).alloc (Nat.le_refl _) _).alloc (by simp) _).alloc (by simp; omega) _⟩
 have d1 : decide ((e : Int) - (p : Int) < 1) = false := decide_eq_false (by omega)
 have hps : p < s.size := by omega
 have g0 := getD_s s p hps
 have p1 : (p : Int) < (s.size : Int) := by omega
 obtain ⟨t, ht⟩ : ∃ t, s[p].toNat = t := ⟨_, rfl⟩
 have ht256 : t < 256 := by rw [← ht]; exact s[p].toNat_lt
 have ha31 : bits .and .u8 (s[p].toNat : Int) 31 = ((t % 32 : Nat) : Int) := by rw [ht]; exact and31 t ht256
 by_cases h2 : t % 32 = 31
 ·have hr : headR s.data.toList p e m = gaveUp 21 p := by unfold headR hAt; rw [if_neg h1, g0, ht, if_pos h2]; rfl
  rw [hr]
  have d2 : (((t % 32 : Nat) : Int) == 31) = true := by rw [beq_iff_eq]; omega
  clear h1 hp he hm hr h2
  go_enter Tryz.func185, Tryz.ntmps185
  go_wp2_with fail
  refine (need_ok _ _ _ _ _ _ d1 hsub).mono ?_
  rintro r w1 ⟨rfl, rfl⟩
  go_wp2_with fail
  exact ⟨rfl, rfl, (((Below.refl _ _).alloc (Nat.le_refl _) _).alloc (by simp) _).alloc (by simp; omega) _⟩
 have d2 : (((t % 32 : Nat) : Int) == 31) = false := by rw [beq_eq_false_iff_ne]; omega
 have hlen : ∀ W, Hid (Calls Tryz.prog 187 #[strV s (e : Int) m, .int .i64 (p : Int)] W fun r w' => r = lenR s.data.toList p e m ∧ Below W.heap.size W w') := fun W => length_any s e p m W he hm (by omega)
 rcases len_parts s.data.toList p e m (by omega) (by rw [g0, ht]; exact h2) with ⟨c, q, hl, hr⟩ | ⟨len, size, hl, hr⟩
 ·rw [hr]
  rw [hl] at hlen
  clear h1 hp he hm hr h2 hl
  go_enter Tryz.func185, Tryz.ntmps185
  go_wp2_with fail
  refine (need_ok _ _ _ _ _ _ d1 hsub).mono ?_
  rintro r w1 ⟨rfl, rfl⟩
  go_wp2_with fail
  refine (hlen _).out.mono ?_
  rintro r w1 ⟨rfl, hb⟩
  refine ⟨rfl, rfl, ?_⟩
  exact ((((Below.refl _ _).alloc (Nat.le_refl _) _).alloc (by simp) _).alloc (by simp; omega) _).trans (hb.mono (by simp; omega))
 ·rw [hr]
  rw [hl] at hlen
  rw [g0, ht]
  have ha32 : bits .and .u8 (t : Int) 32 = ((t / 32 % 2 * 32 : Nat) : Int) := and32 t ht256
  have hmd' : Hid ((((t / 32 % 2 * 32 : Nat) : Int) != 0) = decide (t / 32 % 2 = 1)) := by
   unfold Hid
   rcases Nat.mod_two_eq_zero_or_one (t / 32) with h | h <;> rw [h] <;> rfl
  clear h1 hp he hm hr h2 hl
  go_enter Tryz.func185, Tryz.ntmps185
  go_wp2_with fail
  refine (need_ok _ _ _ _ _ _ d1 hsub).mono ?_
  rintro r w1 ⟨rfl, rfl⟩
  go_wp2_with fail
  refine (hlen _).out.mono ?_
  rintro r w1 ⟨rfl, hb⟩
  have c0 : w1.cell? ⟨w.heap.size + 1, 0, none⟩ = some (.int .i64 0) := by rw [hb.cell (by simp)]; simp [go_sem]
  have f0 : w1.frozen? ⟨w.heap.size + 1, 0, none⟩ = false := by rw [hb.frozen (by simp)]; simp [go_sem]
  have c1 : w1.cell? ⟨w.heap.size + 1, 1, none⟩ = some (.bool false) := by rw [hb.cell (by simp)]; simp [go_sem]
  have f1 : w1.frozen? ⟨w.heap.size + 1, 1, none⟩ = false := by rw [hb.frozen (by simp)]; simp [go_sem]
  have c2 : w1.cell? ⟨w.heap.size + 1, 2, none⟩ = some (.int .i64 0) := by rw [hb.cell (by simp)]; simp [go_sem]
  have f2 : w1.frozen? ⟨w.heap.size + 1, 2, none⟩ = false := by rw [hb.frozen (by simp)]; simp [go_sem]
  have c3 : w1.cell? ⟨w.heap.size + 1, 3, none⟩ = some (.int .i64 0) := by rw [hb.cell (by simp)]; simp [go_sem]
  have f3 : w1.frozen? ⟨w.heap.size + 1, 3, none⟩ = false := by rw [hb.frozen (by simp)]; simp [go_sem]
  have c4 : w1.cell? ⟨w.heap.size + 1, 4, none⟩ = some (.int .i64 0) := by rw [hb.cell (by simp)]; simp [go_sem]
  have f4 : w1.frozen? ⟨w.heap.size + 1, 4, none⟩ = false := by rw [hb.frozen (by simp)]; simp [go_sem]
  go_wp2_with fail
  refine bodyPost_ret_by (v := .agg #[.int .i64 ((t : Int) / 64), .bool ((t : Int) / 32 % 2 * 32 != 0), .int .i64 ((t : Int) % 32), .int .i64 (len : Int), .int .i64 (size : Int)]) ?_ rfl ⟨?_, ?_⟩
  ·simp [results, Tryz.results185, go_sem, c0, c1, c2, c3, c4]
  ·unfold hdV
   have e1 : (t : Int) / 64 = ((t / 64 : Nat) : Int) := by omega
   have e2 : (t : Int) % 32 = ((t % 32 : Nat) : Int) := by omega
   have e3 : ((t : Int) / 32 % 2 * 32 != 0) = decide (t / 32 % 2 = 1) := by rw [← hmd'.out]; congr 1
   rw [e1, e2, e3]
  ·exact ((((((((Below.refl _ _).alloc (Nat.le_refl _) _).alloc (by simp) _).alloc (by simp; omega) _).trans (hb.mono (by simp; omega))).setCell (by simp) _).setCell (by simp) _).setCell (by simp) _).setCell (by simp) _ |>.setCell (by simp) _
end Go.Proofs.YtkknenmpdimdbaaGreatDoor

namespace Go.Proofs.YtkknenmpdimdbaaGreatDoor
open Go.RowKit
open BerMath (Hd HR num hAt)
abbrev fltV (c q : Int) : Value := .agg #[.int .i64 c, .int .i64 q]
theorem assert_fault (v : Value) (W : World) : (Instr.typeAssert (.iface 238 v) 20 238 true).run Tryz.prog W = .ok (.tuple #[v, .bool true]) W := by
 simp [Instr.typeAssert, run_underlying Tryz.underlying238, go_sem, Result.andThen]
theorem ended_fault (c q : Int) (w : World) : Calls Tryz.prog 178 #[.iface 238 (fltV c q)] w fun r w' => r = .returned (fltV c q) ∧ Below w.heap.size w w' := by
 have hta := assert_fault (fltV c q)
 go_enter Tryz.func178, Tryz.ntmps178
 go_wp2_with fail
 refine bodyPost_ret_by (v := fltV c q) ?_ rfl ⟨rfl, ?_⟩
 ·simp [results, Tryz.results178, go_sem]
 ·repeat' first | exact Below.refl _ _ | refine Below.setCell ?_ (by simp) _ | refine Below.alloc ?_ (by simp) _ | refine Below.alloc ?_ (by simp; omega) _
theorem ended_nil (w : World) : Calls Tryz.prog 178 #[.nilIface] w fun r w' => r = .returned (fltV 0 0) ∧ Below w.heap.size w w' := by
 go_enter Tryz.func178, Tryz.ntmps178
 go_wp2_with fail
 refine bodyPost_ret_by (v := fltV 0 0) ?_ rfl ⟨rfl, ?_⟩
 ·simp [results, Tryz.results178, go_sem]
 ·exact (Below.refl _ _).alloc (Nat.le_refl _) _
theorem catch_panicking (b : Nat) (c q : Int) (older : List PanicEntry) (w : World) (x0 x1 : Value) (hb : b < w.heap.size)
  (h0 : w.cell? ⟨b, 0, none⟩ = some x0) (h1 : w.cell? ⟨b, 1, none⟩ = some x1) (z0 : w.frozen? ⟨b, 0, none⟩ = false) (z1 : w.frozen? ⟨b, 1, none⟩ = false) :
  CallsD Tryz.prog 177 #[.pointer (some ⟨b, 0, none⟩)] (.panicking ({ v := .iface 238 (fltV c q), recovered := false } :: older)) w fun e u' w' =>
   e = .returned (.tuple #[]) ∧ u' = .panicking ({ v := .iface 238 (fltV c q), recovered := true } :: older) ∧ ∃ w1 y0 y1, Below w.heap.size w w1 ∧ w1.cell? ⟨b, 0, none⟩ = some y0 ∧ w1.cell? ⟨b, 1, none⟩ = some y1 ∧ w' = (w1.setCell ⟨b, 0, none⟩ (.int .i64 c)).setCell ⟨b, 1, none⟩ (.int .i64 q) := by
 refine callsD_of_wpS Tryz.func177 rfl fun c₀ cs hu => ?_
 apply wpS_region
 simp [wpOpsS, go_sem, recoverD, hu, Tryz.ntmps177]
 refine (ended_fault c q w).mono ?_
 rintro e w1 ⟨rfl, hb1⟩
 have k0 : w1.cell? ⟨b, 0, none⟩ = some x0 := by rw [hb1.cell hb]; exact h0
 have k1 : w1.cell? ⟨b, 1, none⟩ = some x1 := by rw [hb1.cell hb]; exact h1
 have f0 : w1.frozen? ⟨b, 0, none⟩ = false := by rw [hb1.frozen hb]; exact z0
 have f1 : w1.frozen? ⟨b, 1, none⟩ = false := by rw [hb1.frozen hb]; exact z1
 simp [go_sem, k0, k1, f0, f1, bodyPostS, results, Tryz.results177]
 exact ⟨w1, hb1, ⟨x0, k0⟩, ⟨x1, k1⟩, rfl⟩
theorem catch_idle (b : Nat) (w : World) (x0 x1 : Value) (hb : b < w.heap.size)
  (h0 : w.cell? ⟨b, 0, none⟩ = some x0) (h1 : w.cell? ⟨b, 1, none⟩ = some x1) (z0 : w.frozen? ⟨b, 0, none⟩ = false) (z1 : w.frozen? ⟨b, 1, none⟩ = false) :
  CallsD Tryz.prog 177 #[.pointer (some ⟨b, 0, none⟩)] .returning w fun e u' w' =>
   e = .returned (.tuple #[]) ∧ u' = .returning ∧ ∃ w1 y0 y1, Below w.heap.size w w1 ∧ w1.cell? ⟨b, 0, none⟩ = some y0 ∧ w1.cell? ⟨b, 1, none⟩ = some y1 ∧ w' = (w1.setCell ⟨b, 0, none⟩ (.int .i64 0)).setCell ⟨b, 1, none⟩ (.int .i64 0) := by
 refine callsD_of_wpS Tryz.func177 rfl fun c₀ cs hu => ?_
 apply wpS_region
 simp [wpOpsS, go_sem, recoverD, hu, Tryz.ntmps177]
 refine (ended_nil w).mono ?_
 rintro e w1 ⟨rfl, hb1⟩
 have k0 : w1.cell? ⟨b, 0, none⟩ = some x0 := by rw [hb1.cell hb]; exact h0
 have k1 : w1.cell? ⟨b, 1, none⟩ = some x1 := by rw [hb1.cell hb]; exact h1
 have f0 : w1.frozen? ⟨b, 0, none⟩ = false := by rw [hb1.frozen hb]; exact z0
 have f1 : w1.frozen? ⟨b, 1, none⟩ = false := by rw [hb1.frozen hb]; exact z1
 cases c₀
 simp_all [go_sem, bodyPostS, results, Tryz.results177]
 exact ⟨w1, hb1, ⟨x0, k0⟩, ⟨x1, k1⟩, rfl⟩
def Read (r : Ending) (c q : Int) : Prop := (r = .returned (.tuple #[]) ∧ c = 0 ∧ q = 0) ∨ r = gaveUp c q
theorem read_back {c q : Int} (h : Read (.returned (.tuple #[])) c q) : c = 0 ∧ q = 0 := by
 rcases h with h | h
 ·exact h.2
 ·unfold gaveUp at h
  cases h
theorem read_gave {c q c' q' : Int} (h : Read (gaveUp c' q') c q) : c = c' ∧ q = q' := by
 rcases h with h | h
 ·have := h.1
  unfold gaveUp at this
  cases this
 ·simp [gaveUp] at h
  exact ⟨h.1.symm, h.2.symm⟩
end Go.Proofs.YtkknenmpdimdbaaGreatDoor

namespace Go.Proofs.YtkknenmpdimdbaaGreatDoor
open Go.RowKit
open BerMath (Hd HR num hAt)
def Cells (W : World) (b : Nat) (vs : List Value) : Prop := ∀ j (hj : j < vs.length), W.cell? ⟨b, j, none⟩ = some vs[j] ∧ W.frozen? ⟨b, j, none⟩ = false
theorem Cells.of_block {W W' : World} {b : Nat} {vs : List Value} (h : Cells W b vs) (e : W'.heap[b]? = W.heap[b]?) : Cells W' b vs := fun j hj => by
 rw [World.cell?_of_block (w := W) (w' := W') (a := ⟨b, j, none⟩) e, World.frozen?_of_block (w := W) (w' := W') (a := ⟨b, j, none⟩) e]
 exact h j hj
theorem Cells.set {W : World} {b : Nat} {vs : List Value} (h : Cells W b vs) (k : Nat) (hk : k < vs.length) (y : Value) : Cells (W.setCell ⟨b, k, none⟩ y) b (vs.set k y) := by
 intro j hj
 have hj' : j < vs.length := by simpa using hj
 rw [World.frozen?_setCell]
 refine ⟨?_, (h j hj').2⟩
 by_cases e : k = j
 ·subst e
  rw [World.cell?_setCell_same W _ _ (h k hk).1]; simp
 ·rw [World.cell?_setCell_other W _ _ _ (by intro hh; injection hh with _ h2 _; exact e h2), (h j hj').1]
  simp [e]
theorem all_any (s : ByteArray) (w : World) : Calls Tryz.prog 181 #[.string s] w fun r w' => r = .returned (strV s s.size 20) ∧ Below w.heap.size w w' := by
 go_enter Tryz.func181, Tryz.ntmps181
 go_wp2_with fail
 refine bodyPost_ret_by (v := strV s s.size 20) ?_ rfl ⟨rfl, ?_⟩
 ·simp [results, Tryz.results181, go_sem]
 ·repeat' first | exact Below.refl _ _ | refine Below.setCell ?_ (by simp) _ | refine Below.alloc ?_ (by simp) _ | refine Below.alloc ?_ (by simp; omega) _
def hdZ : List Value := [.int .i64 0, .bool false, .int .i64 0, .int .i64 0, .int .i64 0]
end Go.Proofs.YtkknenmpdimdbaaGreatDoor

namespace Go.Proofs.YtkknenmpdimdbaaGreatDoor
open Go.RowKit
open BerMath (Hd HR num hAt)
namespace BerMath
def wAt (b : List UInt8) (p e : Nat) : HR :=
  match hAt b p e with
  | .ok h => if e < p + (h.size + h.len) then HR.miss else .ok h
  | .error (some (c, q)) => HR.er c q
  | .error none => HR.miss
theorem num_lt4 (l : List UInt8) (h : l.length ≤ 4) : num 0 l < 4294967296 := by
  have h1 := num_lt l
  have : 256 ^ l.length ≤ 256 ^ 4 := Nat.pow_le_pow_right (by decide) h
  have e : (256 : Nat) ^ 4 = 4294967296 := by decide
  omega
theorem hAt_ok (b : List UInt8) (p e : Nat) (h : Hd) (hh : hAt b p e = .ok h) : 2 ≤ h.size ∧ h.size ≤ 6 ∧ h.len < 4294967296 ∧ h.cls ≤ 3 ∧ h.tag ≤ 30 ∧ p + 2 ≤ e := by
  unfold hAt at hh
  have hb := (b.getD p 0).toNat_lt
  split at hh
  · cases hh
  split at hh
  · cases hh
  split at hh
  · cases hh
  split at hh
  · cases hh
  split at hh
  · cases hh
  split at hh
  · injection hh with hh
    subst hh
    refine ⟨Nat.le_refl _, by show 2 ≤ 6; omega, ?_, ?_, ?_, by omega⟩
    · show (b.getD (p + 1) 0).toNat < 4294967296; omega
    · show (b.getD p 0).toNat / 64 ≤ 3; omega
    · show (b.getD p 0).toNat % 32 ≤ 30; omega
  split at hh
  · cases hh
  · injection hh with hh
    have l1 : h.len = num 0 ((b.drop (p + 2)).take ((b.getD (p + 1) 0).toNat - 128)) := by rw [← hh]
    have l2 : h.size = (b.getD (p + 1) 0).toNat - 126 := by rw [← hh]
    have l3 : h.cls = (b.getD p 0).toNat / 64 := by rw [← hh]
    have l4 : h.tag = (b.getD p 0).toNat % 32 := by rw [← hh]
    have l5 := num_lt4 ((b.drop (p + 2)).take ((b.getD (p + 1) 0).toNat - 128)) (by rw [List.length_take]; omega)
    rw [← l1] at l5
    clear hh l1
    refine ⟨by omega, by omega, l5, by omega, by omega, by omega⟩
end BerMath
open BerMath (wAt)
def wholeR (b : List UInt8) (p e : Nat) (m : Int) : Ending :=
  match wAt b p e with
  | .ok h => .returned (hdV h)
  | .error (some (c, q)) => gaveUp c q
  | .error none => gaveUp m e
theorem whole_cases (b : List UInt8) (p e : Nat) (m : Int) :
    (∃ c q, headR b p e m = gaveUp c q ∧ wholeR b p e m = gaveUp c q) ∨
    (∃ h, hAt b p e = .ok h ∧ headR b p e m = .returned (hdV h) ∧ e < p + (h.size + h.len) ∧ wholeR b p e m = gaveUp m e) ∨
    (∃ h, hAt b p e = .ok h ∧ headR b p e m = .returned (hdV h) ∧ ¬ e < p + (h.size + h.len) ∧ wholeR b p e m = .returned (hdV h)) := by
  unfold headR wholeR wAt
  cases hAt b p e with
  | ok h =>
    by_cases h1 : e < p + (h.size + h.len)
    · refine Or.inr (Or.inl ⟨h, rfl, rfl, h1, ?_⟩)
      simp only [if_pos h1]
    · refine Or.inr (Or.inr ⟨h, rfl, rfl, h1, ?_⟩)
      simp only [if_neg h1]
  | error o =>
    cases o with
    | some cq =>
      obtain ⟨c, q⟩ := cq
      exact Or.inl ⟨_, _, rfl, rfl⟩
    | none => exact Or.inl ⟨_, _, rfl, rfl⟩
theorem w_sum (x y : Nat) (hx : x ≤ 6) (hy : y < 4294967296) : wrap64 ((x : Int) + (y : Int)) = ((x + y : Nat) : Int) := by unfold wrap64; omega
theorem need_dec (e p n : Nat) : decide ((e : Int) - (p : Int) < (n : Int)) = decide (e < p + n) := by
  rw [decide_eq_decide]; omega
theorem w_dif (e p : Nat) (h : e ≤ 281474976710656) (hp : p ≤ e) : wrap64 ((e : Int) - (p : Int)) = (e : Int) - (p : Int) := by unfold wrap64; omega
set_option maxHeartbeats 1000000 in
theorem whole_any (s : ByteArray) (e p : Nat) (m : Int) (w : World) (he : e ≤ s.size) (hm : s.size ≤ 281474976710656) (hp : p ≤ e) :
    Calls Tryz.prog 184 #[strV s (e : Int) m, .int .i64 (p : Int)] w fun r w' => r = wholeR s.data.toList p e m ∧ Below w.heap.size w w' := by
  have hH : ∀ W, Hid (Calls Tryz.prog 185 #[strV s (e : Int) m, .int .i64 (p : Int)] W fun r w' => r = headR s.data.toList p e m ∧ Below W.heap.size W w') := fun W => header_any s e p m W he hm hp
  have hsub := w_dif e p (Nat.le_trans he hm) hp
  rcases whole_cases s.data.toList p e m with ⟨c, q, h1, h2⟩ | ⟨h, h0, h1, h3, h2⟩ | ⟨h, h0, h1, h3, h2⟩
  · rw [h2]
    rw [h1] at hH
    clear h1 h2 he hm hp
    go_enter Tryz.func184, Tryz.ntmps184
    go_wp2_with fail
    refine (hH _).out.mono ?_
    rintro r w1 ⟨rfl, hb⟩
    refine ⟨rfl, rfl, ?_⟩
    exact (((Below.refl _ _).alloc (Nat.le_refl _) _).alloc (by simp) _).trans (hb.mono (by simp; omega))
  all_goals
    obtain ⟨k1, k2, k3, _⟩ := BerMath.hAt_ok _ _ _ _ h0
    have hw := w_sum h.size h.len k2 k3
    have hd := need_dec e p (h.size + h.len)
    rw [h2]
    rw [h1] at hH
    have hv : hdV h = .agg #[.int .i64 (h.cls : Int), .bool h.made, .int .i64 (h.tag : Int), .int .i64 (h.len : Int), .int .i64 (h.size : Int)] := rfl
    rw [hv] at hH
    obtain ⟨N, hN⟩ : ∃ N : Int, ((h.size + h.len : Nat) : Int) = N := ⟨_, rfl⟩
    rw [hN] at hw hd
    first | rw [decide_eq_true h3] at hd | rw [decide_eq_false h3] at hd
    clear h1 h2 h3 he hm hp k1 k2 k3 hN h0
    go_enter Tryz.func184, Tryz.ntmps184
    go_wp2_with fail
    refine (hH _).out.mono ?_
    rintro r w1 ⟨rfl, hb⟩
    have b0 : w1.cell? ⟨w.heap.size, 0, none⟩ = some (.string s) := by rw [hb.cell (by simp; omega)]; simp [go_sem]
    have b1 : w1.cell? ⟨w.heap.size, 1, none⟩ = some (.int .i64 (e : Int)) := by rw [hb.cell (by simp; omega)]; simp [go_sem]
    have b2 : w1.cell? ⟨w.heap.size, 2, none⟩ = some (.int .i64 m) := by rw [hb.cell (by simp; omega)]; simp [go_sem]
    have c0 : w1.cell? ⟨w.heap.size + 1, 0, none⟩ = some (.int .i64 0) := by rw [hb.cell (by simp)]; simp [go_sem]
    have c1 : w1.cell? ⟨w.heap.size + 1, 1, none⟩ = some (.bool false) := by rw [hb.cell (by simp)]; simp [go_sem]
    have c2 : w1.cell? ⟨w.heap.size + 1, 2, none⟩ = some (.int .i64 0) := by rw [hb.cell (by simp)]; simp [go_sem]
    have c3 : w1.cell? ⟨w.heap.size + 1, 3, none⟩ = some (.int .i64 0) := by rw [hb.cell (by simp)]; simp [go_sem]
    have c4 : w1.cell? ⟨w.heap.size + 1, 4, none⟩ = some (.int .i64 0) := by rw [hb.cell (by simp)]; simp [go_sem]
    have f0 : w1.frozen? ⟨w.heap.size + 1, 0, none⟩ = false := by rw [hb.frozen (by simp)]; simp [go_sem]
    have f1 : w1.frozen? ⟨w.heap.size + 1, 1, none⟩ = false := by rw [hb.frozen (by simp)]; simp [go_sem]
    have f2 : w1.frozen? ⟨w.heap.size + 1, 2, none⟩ = false := by rw [hb.frozen (by simp)]; simp [go_sem]
    have f3 : w1.frozen? ⟨w.heap.size + 1, 3, none⟩ = false := by rw [hb.frozen (by simp)]; simp [go_sem]
    have f4 : w1.frozen? ⟨w.heap.size + 1, 4, none⟩ = false := by rw [hb.frozen (by simp)]; simp [go_sem]
    have n1 : w.heap.size + 1 < w1.heap.size := by have := hb.size; simp at this; omega
    have n0 : w.heap.size < w1.heap.size := by omega
    have HB : Below w.heap.size w w1 := (((Below.refl _ _).alloc (Nat.le_refl _) _).alloc (by simp) _).trans (hb.mono (by simp; omega))
    clear hb
    go_wp2_with fail
    first
      | (refine (need_bad _ _ _ _ _ _ hd hsub).mono ?_
         rintro r w2 ⟨rfl, rfl⟩
         refine ⟨rfl, rfl, ?_⟩
         exact (HB.alloc (Nat.le_of_lt n0) _).alloc (by simp; omega) _)
      | (refine (need_ok _ _ _ _ _ _ hd hsub).mono ?_
         rintro r w2 ⟨rfl, rfl⟩
         go_wp2_with fail
         refine bodyPost_ret_by (v := .agg #[.int .i64 (h.cls : Int), .bool h.made, .int .i64 (h.tag : Int), .int .i64 (h.len : Int), .int .i64 (h.size : Int)]) ?_ rfl ⟨rfl, ?_⟩
         · simp [results, Tryz.results184, go_sem, c0, c1, c2, c3, c4, n0, n1]
         · refine Below.alloc (Below.alloc (Below.setCell (Below.setCell (Below.setCell (Below.setCell (Below.setCell HB ?_ _) ?_ _) ?_ _) ?_ _) ?_ _) (by simp only [World.size_setCell]; omega) _) (by simp only [World.size_alloc, World.size_setCell]; omega) _
           all_goals exact Nat.le_succ _)
end Go.Proofs.YtkknenmpdimdbaaGreatDoor

namespace Go.Proofs.YtkknenmpdimdbaaGreatDoor
namespace BerMath
abbrev El := Nat × Hd × Nat
abbrev TR := List El × Option (Nat × Nat)
def elEnd (x : El) : Nat := x.1 + x.2.1.size + x.2.1.len
def endE : List El → Nat
 | [] => 0
 | x :: _ => elEnd x
def one (b : List UInt8) (K : Nat → Nat → Nat → TR) (m e p d : Nat) : TR :=
 if 64 < d then ([], some (25, p))
 else match wAt b p e with
  | .ok h => if h.made = true then ((p, h, d) :: (K (p + h.size + h.len) (p + h.size) (d + 1)).1, (K (p + h.size + h.len) (p + h.size) (d + 1)).2) else ([(p, h, d)], none)
  | .error (some f) => ([], some f)
  | .error none => ([], some (m, e))
def andThen (r : TR) (s : List El → TR) : TR :=
 match r.2 with
 | some f => (r.1, some f)
 | none => (r.1 ++ (s r.1).1, (s r.1).2)
def kids (b : List UInt8) : Nat → Nat → Nat → Nat → TR
 | 0, _, _, _ => ([], none)
 | n + 1, e, q, d => if e ≤ q then ([], none) else andThen (one b (kids b n) 26 e q d) (fun xs => kids b n e (endE xs) d)
theorem wAt_ok (b : List UInt8) (p e : Nat) (h : Hd) (hh : wAt b p e = .ok h) : 2 ≤ h.size ∧ h.size ≤ 6 ∧ h.len < 4294967296 ∧ h.cls ≤ 3 ∧ h.tag ≤ 30 ∧ p + h.size + h.len ≤ e := by
 unfold wAt at hh
 cases hx : hAt b p e with
 | ok x =>
  rw [hx] at hh
  dsimp only at hh
  split at hh
  ·cases hh
  ·injection hh with hh
   subst hh
   obtain ⟨h1, h2, h3, h4, h5, _⟩ := hAt_ok b p e x hx
   exact ⟨h1, h2, h3, h4, h5, by omega⟩
 | error o =>
  rw [hx] at hh
  cases o with
  | none => cases hh
  | some cq => obtain ⟨c, q⟩ := cq; cases hh
theorem wAt_er (b : List UInt8) (p e c q : Nat) (hh : wAt b p e = .error (some (c, q))) : c = 21 ∨ c = 22 ∨ c = 23 := by
 unfold wAt at hh
 cases hx : hAt b p e with
 | ok x =>
  rw [hx] at hh
  dsimp only at hh
  split at hh <;> cases hh
 | error o =>
  rw [hx] at hh
  cases o with
  | none => cases hh
  | some cq =>
   obtain ⟨c', q'⟩ := cq
   dsimp only at hh
   have e1 := er_inj hh
   unfold hAt at hx
   split at hx
   ·cases hx
   split at hx
   ·have h1 := (er_inj hx).1; omega
   split at hx
   ·cases hx
   split at hx
   ·have h1 := (er_inj hx).1; omega
   split at hx
   ·have h1 := (er_inj hx).1; omega
   split at hx
   ·cases hx
   split at hx
   ·cases hx
   ·cases hx
theorem one_deep (b : List UInt8) (K : Nat → Nat → Nat → TR) (m e p d : Nat) (h : 64 < d) : one b K m e p d = ([], some (25, p)) := by
 unfold one; rw [if_pos h]
theorem one_made (b : List UInt8) (K : Nat → Nat → Nat → TR) (m e p d : Nat) (h : Hd) (hd : ¬ 64 < d) (hw : wAt b p e = .ok h) (hm : h.made = true) :
  one b K m e p d = ((p, h, d) :: (K (p + h.size + h.len) (p + h.size) (d + 1)).1, (K (p + h.size + h.len) (p + h.size) (d + 1)).2) := by
 unfold one; rw [if_neg hd, hw]; dsimp only; rw [if_pos hm]
theorem one_leaf (b : List UInt8) (K : Nat → Nat → Nat → TR) (m e p d : Nat) (h : Hd) (hd : ¬ 64 < d) (hw : wAt b p e = .ok h) (hm : ¬ h.made = true) : one b K m e p d = ([(p, h, d)], none) := by
 unfold one; rw [if_neg hd, hw]; dsimp only; rw [if_neg hm]
theorem one_er (b : List UInt8) (K : Nat → Nat → Nat → TR) (m e p d : Nat) (f : Nat × Nat) (hd : ¬ 64 < d) (hw : wAt b p e = .error (some f)) : one b K m e p d = ([], some f) := by
 unfold one; rw [if_neg hd, hw]
theorem one_miss (b : List UInt8) (K : Nat → Nat → Nat → TR) (m e p d : Nat) (hd : ¬ 64 < d) (hw : wAt b p e = .error none) : one b K m e p d = ([], some (m, e)) := by
 unfold one; rw [if_neg hd, hw]
theorem kids_end (b : List UInt8) (n e q d : Nat) (h : e ≤ q) : kids b n e q d = ([], none) := by
 cases n with
 | zero => rfl
 | succ n => show (if e ≤ q then _ else _) = _; rw [if_pos h]
theorem kids_succ (b : List UInt8) (n e q d : Nat) (h : ¬ e ≤ q) : kids b (n + 1) e q d = andThen (one b (kids b n) 26 e q d) (fun xs => kids b n e (endE xs) d) := by
 show (if e ≤ q then _ else _) = _; rw [if_neg h]
theorem one_head (b : List UInt8) (K : Nat → Nat → Nat → TR) (m e p d : Nat) (xs : List El) (h : one b K m e p d = (xs, none)) :
  ∃ hd ys, wAt b p e = .ok hd ∧ xs = (p, hd, d) :: ys := by
 by_cases h1 : 64 < d
 ·rw [one_deep b K m e p d h1] at h; cases h
 cases hw : wAt b p e with
 | ok x =>
  by_cases hm : x.made = true
  ·rw [one_made b K m e p d x h1 hw hm] at h
   injection h with h _
   exact ⟨x, _, rfl, h.symm⟩
  ·rw [one_leaf b K m e p d x h1 hw hm] at h
   injection h with h _
   exact ⟨x, [], rfl, h.symm⟩
 | error o =>
  cases o with
  | some f => rw [one_er b K m e p d f h1 hw] at h; cases h
  | none => rw [one_miss b K m e p d h1 hw] at h; cases h
theorem kids_fuel (b : List UInt8) : ∀ (n m e q d : Nat), e ≤ q + n → e ≤ q + m → kids b n e q d = kids b m e q d := by
 intro n
 induction n with
 | zero => intro m e q d h1 _; rw [kids_end b 0 e q d (by omega), kids_end b m e q d (by omega)]
 | succ n ih =>
  intro m e q d h1 h2
  by_cases hq : e ≤ q
  ·rw [kids_end b _ e q d hq, kids_end b m e q d hq]
  cases m with
  | zero => omega
  | succ m =>
   rw [kids_succ b n e q d hq, kids_succ b m e q d hq]
   have ho : one b (kids b n) 26 e q d = one b (kids b m) 26 e q d := by
    by_cases hd : 64 < d
    ·rw [one_deep _ _ _ _ _ _ hd, one_deep _ _ _ _ _ _ hd]
    cases hw : wAt b q e with
    | ok x =>
     obtain ⟨k1, k2, k3, k4, k5, k6⟩ := wAt_ok b q e x hw
     by_cases hm : x.made = true
     ·rw [one_made _ _ _ _ _ _ x hd hw hm, one_made _ _ _ _ _ _ x hd hw hm, ih m _ _ _ (by omega) (by omega)]
     ·rw [one_leaf _ _ _ _ _ _ x hd hw hm, one_leaf _ _ _ _ _ _ x hd hw hm]
    | error o =>
     cases o with
     | some f => rw [one_er _ _ _ _ _ _ f hd hw, one_er _ _ _ _ _ _ f hd hw]
     | none => rw [one_miss _ _ _ _ _ _ hd hw, one_miss _ _ _ _ _ _ hd hw]
   rw [ho]
   obtain ⟨⟨xs, r⟩, hr⟩ : ∃ y, one b (kids b m) 26 e q d = y := ⟨_, rfl⟩
   rw [hr]
   cases r with
   | some f => rfl
   | none =>
    obtain ⟨x, ys, hw, rfl⟩ := one_head b _ _ _ _ _ _ hr
    obtain ⟨k1, k2, k3, k4, k5, k6⟩ := wAt_ok b q e x hw
    unfold andThen
    dsimp only [endE, elEnd]
    rw [ih m e (q + x.size + x.len) d (by omega) (by omega)]
theorem kids_len (b : List UInt8) : ∀ (n e q d : Nat), q ≤ e → 2 * (kids b n e q d).1.length + q ≤ e ∧ ∀ x ∈ (kids b n e q d).1, q ≤ x.1 ∧ elEnd x ≤ e ∧ 2 ≤ x.2.1.size ∧ x.2.1.size ≤ 6 ∧ x.2.1.len < 4294967296 ∧ x.2.1.cls ≤ 3 ∧ x.2.1.tag ≤ 30 ∧ x.2.2 ≤ 64 := by
 intro n
 induction n with
 | zero => intro e q d h; exact ⟨by simpa [kids] using h, fun x hx => by simp [kids] at hx⟩
 | succ n ih =>
  intro e q d hqe
  by_cases hq : e ≤ q
  ·rw [kids_end b _ e q d hq]; exact ⟨by simpa using hqe, fun x hx => by simp at hx⟩
  rw [kids_succ b n e q d hq]
  have ho : ∀ xs r, one b (kids b n) 26 e q d = (xs, r) → (r = none → 2 * xs.length + q ≤ endE xs ∧ endE xs ≤ e) ∧ 2 * xs.length + q ≤ e ∧ ∀ x ∈ xs, q ≤ x.1 ∧ elEnd x ≤ e ∧ 2 ≤ x.2.1.size ∧ x.2.1.size ≤ 6 ∧ x.2.1.len < 4294967296 ∧ x.2.1.cls ≤ 3 ∧ x.2.1.tag ≤ 30 ∧ x.2.2 ≤ 64 := by
   intro xs r h
   by_cases hd : 64 < d
   ·rw [one_deep _ _ _ _ _ _ hd] at h
    injection h with h1 h2
    subst h1 h2
    exact ⟨fun e => (by cases e), by simpa using hqe, fun x hx => by simp at hx⟩
   cases hw : wAt b q e with
   | ok x =>
    obtain ⟨k1, k2, k3, k4, k5, k6⟩ := wAt_ok b q e x hw
    by_cases hm : x.made = true
    ·rw [one_made _ _ _ _ _ _ x hd hw hm] at h
     injection h with h1 h2
     obtain ⟨i1, i2⟩ := ih (q + x.size + x.len) (q + x.size) (d + 1) (by omega)
     subst h1
     refine ⟨fun _ => ?_, ?_, ?_⟩
     ·simp only [List.length_cons, endE, elEnd]; omega
     ·simp only [List.length_cons]; omega
     ·intro y hy
      rcases List.mem_cons.1 hy with rfl | hy
      ·exact ⟨Nat.le_refl _, k6, k1, k2, k3, k4, k5, by show d ≤ 64; omega⟩
      ·obtain ⟨j1, j2, j3⟩ := i2 y hy
       exact ⟨by omega, by omega, j3⟩
    ·rw [one_leaf _ _ _ _ _ _ x hd hw hm] at h
     injection h with h1 h2
     subst h1
     refine ⟨fun _ => ?_, ?_, ?_⟩
     ·simp only [List.length_cons, List.length_nil, endE, elEnd]; omega
     ·simp only [List.length_cons, List.length_nil]; omega
     ·intro y hy
      rcases List.mem_cons.1 hy with rfl | hy
      ·exact ⟨Nat.le_refl _, k6, k1, k2, k3, k4, k5, by show d ≤ 64; omega⟩
      ·simp at hy
   | error o =>
    cases o with
    | some f =>
     rw [one_er _ _ _ _ _ _ f hd hw] at h
     injection h with h1 h2
     subst h1 h2
     exact ⟨fun e => (by cases e), by simpa using hqe, fun x hx => by simp at hx⟩
    | none =>
     rw [one_miss _ _ _ _ _ _ hd hw] at h
     injection h with h1 h2
     subst h1 h2
     exact ⟨fun e => (by cases e), by simpa using hqe, fun x hx => by simp at hx⟩
  obtain ⟨⟨xs, r⟩, hr⟩ : ∃ y, one b (kids b n) 26 e q d = y := ⟨_, rfl⟩
  rw [hr]
  obtain ⟨o1, o2, o3⟩ := ho xs r hr
  cases r with
  | some f => exact ⟨o2, o3⟩
  | none =>
   obtain ⟨o4, o5⟩ := o1 rfl
   obtain ⟨i1, i2⟩ := ih e (endE xs) d o5
   unfold andThen
   dsimp only
   refine ⟨by rw [List.length_append]; omega, fun y hy => ?_⟩
   rcases List.mem_append.1 hy with hy | hy
   ·exact o3 y hy
   ·obtain ⟨j1, j2, j3⟩ := i2 y hy
    exact ⟨by omega, j2, j3⟩
end BerMath
end Go.Proofs.YtkknenmpdimdbaaGreatDoor

namespace Go.Proofs.YtkknenmpdimdbaaGreatDoor
open Go.RowKit
open BerMath (Hd HR num hAt wAt)
abbrev elmV (h : Hd) (d : Int) : Value := .agg #[.int .i64 (h.cls : Int), .bool h.made, .int .i64 (h.tag : Int), .int .i64 (h.len : Int), .int .i64 (h.size : Int), .int .i64 d]
abbrev elmO (h : Hd) (d : Int) : Obj := .cells #[.int .i64 (h.cls : Int), .bool h.made, .int .i64 (h.tag : Int), .int .i64 (h.len : Int), .int .i64 (h.size : Int), .int .i64 d] 244
theorem end_any (h : Hd) (d : Int) (p : Nat) (w : World) (hp : p ≤ 281474976710656) (h1 : h.size ≤ 6) (h2 : h.len < 4294967296) :
  Calls Tryz.prog 175 #[elmV h d, .int .i64 (p : Int)] w fun r w' => r = .returned (.int .i64 ((p + h.size + h.len : Nat) : Int)) ∧ w' = w.alloc (elmO h d) := by
 have e1 : wrap64 ((p : Int) + (h.size : Int)) = ((p + h.size : Nat) : Int) := by unfold wrap64; omega
 have e2 : wrap64 (((p + h.size : Nat) : Int) + (h.len : Int)) = ((p + h.size + h.len : Nat) : Int) := by unfold wrap64; omega
 obtain ⟨A, hA⟩ : ∃ A : Int, ((p + h.size : Nat) : Int) = A := ⟨_, rfl⟩
 obtain ⟨E, hE⟩ : ∃ E : Int, ((p + h.size + h.len : Nat) : Int) = E := ⟨_, rfl⟩
 rw [hA] at e1
 rw [hA, hE] at e2
 rw [hE]
 have e2' : Hid (wrap64 (A + (h.len : Int)) = E) := e2
 clear hA hE hp h1 h2
 go_enter Tryz.func175, Tryz.ntmps175
 go_wp2
 go_ret
 exact ⟨by rw [← e2'.out]; rfl, rfl⟩
set_option maxHeartbeats 1000000 in
theorem content_any (s : ByteArray) (h : Hd) (d : Int) (p : Nat) (w : World) (hp : p ≤ 281474976710656) (h1 : h.size ≤ 6) (h2 : h.len < 4294967296) (h3 : p + h.size + h.len ≤ s.size) :
  Calls Tryz.prog 182 #[elmV h d, .string s, .int .i64 (p : Int)] w fun r w' => r = .returned (.string (s.extract (p + h.size) (p + h.size + h.len))) ∧ Below w.heap.size w w' := by
 have hEnd : ∀ W, Hid (Calls Tryz.prog 175 #[elmV h d, .int .i64 (p : Int)] W fun r w' => r = .returned (.int .i64 ((p + h.size + h.len : Nat) : Int)) ∧ w' = W.alloc (elmO h d)) := fun W => end_any h d p W hp h1 h2
 have e1 : wrap64 ((p : Int) + (h.size : Int)) = ((p + h.size : Nat) : Int) := by unfold wrap64; omega
 have e1' : IntKind.i64.wrap ((p : Int) + (h.size : Int)) = ((p + h.size : Nat) : Int) := by rw [IntKind.wrap_i64]; omega
 have hAE : p + h.size ≤ p + h.size + h.len := Nat.le_add_right _ _
 generalize p + h.size + h.len = E at *
 generalize p + h.size = A at *
 have a0 : (0 : Int) ≤ (A : Int) := Int.natCast_nonneg _
 have a1 : (A : Int) ≤ (E : Int) := Int.ofNat_le.2 hAE
 have a2 : (E : Int) ≤ (s.size : Int) := Int.ofNat_le.2 h3
 clear hp h1 h2
 go_enter Tryz.func182, Tryz.ntmps182
 go_wp2_with fail
 go_region_with (go_at_call 175; refine (hEnd _).out.mono ?_; rintro r w1 ⟨rfl, rfl⟩)
 all_goals
  go_wp2_with fail
  go_ret
  refine ⟨rfl, ?_⟩
  repeat' first | exact Below.refl _ _ | refine Below.drew ?_ | refine Below.alloc ?_ (by simp) _ | refine Below.alloc ?_ (by simp; omega) _
end Go.Proofs.YtkknenmpdimdbaaGreatDoor
