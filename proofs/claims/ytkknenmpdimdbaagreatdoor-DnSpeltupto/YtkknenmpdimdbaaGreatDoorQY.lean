import Derived.Test.YtkknenmpdimdbaaGreatDoorQG
import Derived.Test.YtkknenmpdimdbaaGreatDoorQM
import Derived.Deep.RegionHeld3
import Derived.BigQuiet
import Derived.Test.YtkknenmpdimdbaaGreatDoorQU
import Derived.Test.YtkknenmpdimdbaaGreatDoorQB
namespace Go.Proofs.YtkknenmpdimdbaaGreatDoor
namespace Bl
open Go.RowKit
set_option linter.unusedVariables false

/-- A row of numbers that came in. -/
def NRw (w : World) (a : Option Addr) (n : Nat) : Prop := ∀ i, i < n → ∃ b off x, a = some ⟨b, off, none⟩ ∧ w.cell? ⟨b, off + i, none⟩ = some (.int .i64 x)
/-- The picks: their box, the numbers, how many were used. -/
def Pk (w : World) (g : Nat) (a : Option Addr) (n c I : Nat) : Prop := w.heap[g]? = some (.cells #[.slice a n c, .int .i64 (I : Int)] 29 (0, 0)) ∧ NRw w a n
theorem mod_pos (x m : Int) (h : 0 < m) : -m < x.tmod m ∧ x.tmod m < m := ⟨by have := Int.lt_tmod_of_pos x h; omega, Int.tmod_lt_of_pos x h⟩
/-- What next answers. -/
def NxQ (m : Int) (e : Ending) : Prop := ∃ k : Nat, e = .returned (.int .i64 (k : Int)) ∧ (k : Int) < m
set_option maxRecDepth 100000 in
set_option maxHeartbeats 4000000 in
theorem next_any (g : Nat) (a : Option Addr) (n c I : Nat) (m : Int) (w : World) (h : Pk w g a n c I) (hm : 0 < m) (hm2 : m ≤ 1048576) (hI : I ≤ 1073741824) (hn : n ≤ 1073741824) :
    Calls Tryz.prog 52 #[.pointer (some ⟨g, 0, none⟩), .int .i64 m] w fun e w' => NxQ m e ∧ (w' = w ∨ ∃ q, w' = (w.drewN q).setCell ⟨g, 1, none⟩ (.int .i64 ((I + 1 : Nat) : Int))) := by
  have c0 : w.cell? ⟨g, 0, none⟩ = some (.slice a n c) := by simp [World.cell?, h.1]
  have c1 : w.cell? ⟨g, 1, none⟩ = some (.int .i64 (I : Int)) := by simp [World.cell?, h.1]
  by_cases h0 : n = 0
  · subst h0
    clear c1 hI hn
    go_enter Tryz.func52, Tryz.ntmps52
    go_wp2_with fail
    go_ret
    exact ⟨⟨0, rfl, hm⟩, Or.inl rfl⟩
  · have hz : w.frozen? ⟨g, 1, none⟩ = false := by simp [World.frozen?, h.1]
    have n1 : ((n : Int) == 0) = false := by simp; omega
    have n2 : (n : Int) ≠ 0 := by omega
    have i0 : (0 : Int) ≤ (I : Int) := Int.natCast_nonneg _
    have im : (I : Int).tmod (n : Int) = ((I % n : Nat) : Int) := by rw [Int.tmod_eq_emod_of_nonneg i0]; simp
    have il : I % n < n := Nat.mod_lt _ (by omega)
    obtain ⟨b, off, x, rfl, cx⟩ := h.2 (I % n) il
    obtain ⟨j, hj⟩ : ∃ j, I % n = j := ⟨_, rfl⟩
    rw [hj] at im il cx
    have j0 : (0 : Int) ≤ (j : Int) := Int.natCast_nonneg _
    have j1 : (j : Int) < (n : Int) := Int.ofNat_lt.2 il
    have hmp := mod_pos x m hm
    obtain ⟨y, hy⟩ : ∃ y, x.tmod m = y := ⟨_, rfl⟩
    rw [hy] at hmp
    have m0 : m ≠ 0 := by omega
    clear h hj il h0
    go_enter Tryz.func52, Tryz.ntmps52
    go_wp2_with fail
    have hzd : ∀ q, (w.drewN q).cell? ⟨g, 1, none⟩ = some (.int .i64 (I : Int)) ∧ (w.drewN q).frozen? ⟨g, 1, none⟩ = false := fun q => ⟨c1, hz⟩
    have eI : Hid ((I : Int) + 1 = ((I + 1 : Nat) : Int)) := by unfold Hid; omega
    have hm2' : Hid (m ≤ 1048576) := hm2
    have hmp' : Hid (-m < y ∧ y < m) := hmp
    go_quiet (fail)
    rename_i nq
    obtain ⟨d1, d2⟩ := hzd nq
    have HD : Hid (∃ q, w.drewN nq = w.drewN q) := ⟨nq, rfl⟩
    obtain ⟨w2, hw2⟩ : ∃ W, w.drewN nq = W := ⟨_, rfl⟩
    rw [hw2] at d1 d2 HD ⊢
    clear c0 c1 cx hz hzd hw2 hm2 hn im j0 j1 i0 n1 n2 hmp hy m0
    by_cases hy0 : y < 0
    · have hw : wrap64 (y + m) = y + m := by have := hm2'.out; have := hmp'.out; unfold wrap64; omega
      obtain ⟨k, hk⟩ : ∃ k : Nat, y + m = (k : Int) := ⟨(y + m).toNat, by have := hmp'.out; omega⟩
      have F : Hid (NxQ m (.returned (.int .i64 (wrap64 (y + m))))) := ⟨k, by rw [hw, hk], by have := hmp'.out; omega⟩
      clear hk hw
      go_wp2_with fail
      go_ret
      obtain ⟨q, hq⟩ := HD.out
      exact ⟨F.out, Or.inr ⟨q, by rw [← hq, show ((I + 1 : Nat) : Int) = (I : Int) + 1 from by omega]⟩⟩
    · obtain ⟨k, hk⟩ : ∃ k : Nat, y = (k : Int) := ⟨y.toNat, by omega⟩
      have F : Hid (NxQ m (.returned (.int .i64 y))) := ⟨k, by rw [hk], by have := hmp'.out; omega⟩
      clear hk
      go_wp2_with fail
      go_ret
      obtain ⟨q, hq⟩ := HD.out
      exact ⟨F.out, Or.inr ⟨q, by rw [← hq]⟩⟩
end Bl
end Go.Proofs.YtkknenmpdimdbaaGreatDoor

namespace Go.Proofs.YtkknenmpdimdbaaGreatDoor
namespace Pa
open Ke (tyOk tyC tyR utf PR mst ec escF escV pt1 ptT ptx OkP OkI OkD escF_snoc)
set_option linter.unusedVariables false

/-- Must the byte at the place i be escaped? -/
def mu (l : List UInt8) (i : Nat) : Bool := l.getD i 0 == 0 || mst l.length i (l.getD i 0)
/-- What its escape adds. -/
def ex (l : List UInt8) (i : Nat) : Nat := if mu l i = true then (if l.getD i 0 = 0 then 2 else 1) else 0
def exS (l : List UInt8) (k : Nat) : Nat := ((List.range k).map (ex l)).sum
theorem exS_succ (l : List UInt8) (k : Nat) : exS l (k + 1) = exS l k + ex l k := by
  unfold exS
  rw [List.range_succ, List.map_append, List.sum_append]
  simp
theorem ec_len (l : List UInt8) (i : Nat) : (ec l.length i (l.getD i 0)).length = 1 + ex l i := by
  unfold ec ex mu
  generalize l.getD i 0 = c
  generalize l.length = N
  by_cases h0 : c = 0
  · subst h0
    simp
  · have hz : (c == 0) = false := by rw [beq_eq_false_iff_ne]; exact h0
    rw [if_neg h0, hz, Bool.false_or]
    cases hm : mst N i c with
    | true => simp [h0]
    | false => simp
theorem escF_pre (l : List UInt8) : ∀ k, k ≤ l.length → (escF l.length 0 (l.take k)).length = k + exS l k
  | 0, _ => by simp [escF, exS]
  | k + 1, h => by
    have ih := escF_pre l k (by omega)
    have e : l.take (k + 1) = l.take k ++ [l.getD k 0] := by
      rw [List.take_succ_eq_append_getElem (by omega), List.getD_eq_getElem?_getD, List.getElem?_eq_getElem (by omega)]
      rfl
    rw [e, escF_snoc, List.length_append, ih, exS_succ, List.length_take, Nat.zero_add, Nat.min_eq_left (by omega), ec_len]
    omega
theorem escV_len (l : List UInt8) : (escV l).length = l.length + exS l l.length := by
  have := escF_pre l l.length (Nat.le_refl _)
  rw [List.take_length] at this
  exact this
theorem ex_le (l : List UInt8) (i : Nat) : ex l i ≤ 2 := by unfold ex; split <;> (try split) <;> omega
theorem exS_le (l : List UInt8) : ∀ k, exS l k ≤ 2 * k
  | 0 => by simp [exS]
  | k + 1 => by
    have := exS_le l k
    have := ex_le l k
    rw [exS_succ]
    omega
/-- What a pair counts. -/
def pW (p : PR) : Nat := p.1.length + 1 + p.2.length + 1 + exS p.2 p.2.length
def rS (r : List PR) : Nat := (r.map pW).sum
def dS (D : List (List PR)) : Nat := (D.map rS).sum
theorem pt1_len (p : PR) : (pt1 p).length + 1 = pW p := by
  unfold pt1 pW
  rw [List.length_append, List.length_cons, escV_len]
  omega
theorem ptT_len : ∀ l : List PR, (ptT l).length = rS l
  | [] => rfl
  | p :: l => by
    have h1 := pt1_len p
    have h2 := ptT_len l
    show ((43 :: pt1 p) ++ ptT l).length = _
    unfold rS at *
    rw [List.length_append, List.length_cons, List.map_cons, List.sum_cons, h2]
    omega
theorem ptx_len {r : List PR} (h : 1 ≤ r.length) : (ptx r).length + 1 = rS r := by
  match r, h with
  | p :: l, _ =>
    have h1 := pt1_len p
    have h2 := ptT_len l
    show (pt1 p ++ ptT l).length + 1 = _
    unfold rS at *
    rw [List.length_append, List.map_cons, List.sum_cons, h2]
    omega
theorem dT_len : ∀ D : List (List PR), (∀ r ∈ D, 1 ≤ r.length) → (dT D).length = dS D
  | [], _ => rfl
  | r :: D, h => by
    have h1 := ptx_len (h r (List.mem_cons_self ..))
    have h2 := dT_len D (fun x hx => h x (List.mem_cons_of_mem _ hx))
    show ((44 :: ptx r) ++ dT D).length = _
    unfold dS at *
    rw [List.length_append, List.length_cons, List.map_cons, List.sum_cons, h2]
    omega
theorem dX_len {D : List (List PR)} (h : ∀ r ∈ D, 1 ≤ r.length) : (dX D).length = dS D - 1 := by
  cases D with
  | nil => rfl
  | cons r D =>
    have h1 := ptx_len (h r (List.mem_cons_self ..))
    have h2 := dT_len D (fun x hx => h x (List.mem_cons_of_mem _ hx))
    show (ptx r ++ dT D).length = _
    unfold dS at *
    rw [List.length_append, List.map_cons, List.sum_cons, h2]
    omega
end Pa
end Go.Proofs.YtkknenmpdimdbaaGreatDoor

namespace Go.Proofs.YtkknenmpdimdbaaGreatDoor
namespace Pa
open Go.RowKit
open Ke (mst PR)
open Du (PRow DRow PX sd sd_len drow_at prow_at pV pV_len)
set_option linter.unusedVariables false
set_option linter.unusedSimpArgs false
set_option maxRecDepth 100000

theorem sub1 {i n : Nat} (h : i < n) (hn : n ≤ 1073741824) : wrap64 ((n : Int) - 1) = ((n - 1 : Nat) : Int) := by unfold wrap64; omega
set_option maxHeartbeats 8000000 in
theorem must_any (v : ByteArray) (i : Nat) (w : World) (hi : i < v.size) (hv : v.size ≤ 1073741824) :
    Calls Tryz.prog 54 #[.string v, .int .i64 (i : Int)] w fun e w' => e = .returned (.bool (mu v.data.toList i)) ∧ w' = w := by
  have hL : v.data.toList.length = v.size := size_l v
  have hg : v.data.toList.getD i 0 = v[i] := by
    rw [List.getD_eq_getElem?_getD, List.getElem?_eq_getElem (by rw [hL]; exact hi)]
    rfl
  have i0 : (0 : Int) ≤ (i : Int) := Int.natCast_nonneg _
  have i1 : (i : Int) < (v.size : Int) := Int.ofNat_lt.2 hi
  have ib : (v.size : Int) ≤ 1073741824 := by omega
  obtain ⟨a, ha⟩ : ∃ a, v[i] = a := ⟨_, rfl⟩
  have hmu : mu v.data.toList i = (a == 0 || mst v.size i a) := by unfold mu; rw [hg, ha, hL]
  rw [hmu]
  have heq : ∀ (n : Nat), n < 256 → ∀ x : Bool, decide (a = UInt8.ofNat n) = x → ((a.toNat : Int) == (n : Int)) = x := fun n hn x hx => by
    rw [← hx, Bool.eq_iff_iff, beq_iff_eq, decide_eq_true_iff]
    constructor
    · intro h; exact UInt8.toNat_inj.1 (by rw [UInt8.toNat_ofNat']; omega)
    · rintro rfl; rw [UInt8.toNat_ofNat']; omega
  clear hL hg hmu
  by_cases h0 : a = 0
  · skip
    have f0 : ((a.toNat : Int) == 0) = true := heq 0 (by decide) _ (by subst h0; decide)
    have f92 : ((a.toNat : Int) == 92) = false := heq 92 (by decide) _ (by subst h0; decide)
    have f34 : ((a.toNat : Int) == 34) = false := heq 34 (by decide) _ (by subst h0; decide)
    have f43 : ((a.toNat : Int) == 43) = false := heq 43 (by decide) _ (by subst h0; decide)
    have f44 : ((a.toNat : Int) == 44) = false := heq 44 (by decide) _ (by subst h0; decide)
    have f59 : ((a.toNat : Int) == 59) = false := heq 59 (by decide) _ (by subst h0; decide)
    have f60 : ((a.toNat : Int) == 60) = false := heq 60 (by decide) _ (by subst h0; decide)
    have f62 : ((a.toNat : Int) == 62) = false := heq 62 (by decide) _ (by subst h0; decide)
    have f32 : ((a.toNat : Int) == 32) = false := heq 32 (by decide) _ (by subst h0; decide)
    have f35 : ((a.toNat : Int) == 35) = false := heq 35 (by decide) _ (by subst h0; decide)
    have hr : (a == 0 || mst v.size i a) = true := by subst h0; rfl
    rw [hr]
    clear heq hr h0
    go_enter Tryz.func54, Tryz.ntmps54
    go_wp2_with fail
    go_ret
    exact ⟨rfl, rfl⟩
  by_cases h92 : a = 92
  · skip
    have f0 : ((a.toNat : Int) == 0) = false := heq 0 (by decide) _ (by subst h92; decide)
    have f92 : ((a.toNat : Int) == 92) = true := heq 92 (by decide) _ (by subst h92; decide)
    have f34 : ((a.toNat : Int) == 34) = false := heq 34 (by decide) _ (by subst h92; decide)
    have f43 : ((a.toNat : Int) == 43) = false := heq 43 (by decide) _ (by subst h92; decide)
    have f44 : ((a.toNat : Int) == 44) = false := heq 44 (by decide) _ (by subst h92; decide)
    have f59 : ((a.toNat : Int) == 59) = false := heq 59 (by decide) _ (by subst h92; decide)
    have f60 : ((a.toNat : Int) == 60) = false := heq 60 (by decide) _ (by subst h92; decide)
    have f62 : ((a.toNat : Int) == 62) = false := heq 62 (by decide) _ (by subst h92; decide)
    have f32 : ((a.toNat : Int) == 32) = false := heq 32 (by decide) _ (by subst h92; decide)
    have f35 : ((a.toNat : Int) == 35) = false := heq 35 (by decide) _ (by subst h92; decide)
    have hr : (a == 0 || mst v.size i a) = true := by subst h92; rfl
    rw [hr]
    clear heq hr h92
    go_enter Tryz.func54, Tryz.ntmps54
    go_wp2_with fail
    go_ret
    exact ⟨rfl, rfl⟩
  by_cases h34 : a = 34
  · skip
    have f0 : ((a.toNat : Int) == 0) = false := heq 0 (by decide) _ (by subst h34; decide)
    have f92 : ((a.toNat : Int) == 92) = false := heq 92 (by decide) _ (by subst h34; decide)
    have f34 : ((a.toNat : Int) == 34) = true := heq 34 (by decide) _ (by subst h34; decide)
    have f43 : ((a.toNat : Int) == 43) = false := heq 43 (by decide) _ (by subst h34; decide)
    have f44 : ((a.toNat : Int) == 44) = false := heq 44 (by decide) _ (by subst h34; decide)
    have f59 : ((a.toNat : Int) == 59) = false := heq 59 (by decide) _ (by subst h34; decide)
    have f60 : ((a.toNat : Int) == 60) = false := heq 60 (by decide) _ (by subst h34; decide)
    have f62 : ((a.toNat : Int) == 62) = false := heq 62 (by decide) _ (by subst h34; decide)
    have f32 : ((a.toNat : Int) == 32) = false := heq 32 (by decide) _ (by subst h34; decide)
    have f35 : ((a.toNat : Int) == 35) = false := heq 35 (by decide) _ (by subst h34; decide)
    have hr : (a == 0 || mst v.size i a) = true := by subst h34; rfl
    rw [hr]
    clear heq hr h34
    go_enter Tryz.func54, Tryz.ntmps54
    go_wp2_with fail
    go_ret
    exact ⟨rfl, rfl⟩
  by_cases h43 : a = 43
  · skip
    have f0 : ((a.toNat : Int) == 0) = false := heq 0 (by decide) _ (by subst h43; decide)
    have f92 : ((a.toNat : Int) == 92) = false := heq 92 (by decide) _ (by subst h43; decide)
    have f34 : ((a.toNat : Int) == 34) = false := heq 34 (by decide) _ (by subst h43; decide)
    have f43 : ((a.toNat : Int) == 43) = true := heq 43 (by decide) _ (by subst h43; decide)
    have f44 : ((a.toNat : Int) == 44) = false := heq 44 (by decide) _ (by subst h43; decide)
    have f59 : ((a.toNat : Int) == 59) = false := heq 59 (by decide) _ (by subst h43; decide)
    have f60 : ((a.toNat : Int) == 60) = false := heq 60 (by decide) _ (by subst h43; decide)
    have f62 : ((a.toNat : Int) == 62) = false := heq 62 (by decide) _ (by subst h43; decide)
    have f32 : ((a.toNat : Int) == 32) = false := heq 32 (by decide) _ (by subst h43; decide)
    have f35 : ((a.toNat : Int) == 35) = false := heq 35 (by decide) _ (by subst h43; decide)
    have hr : (a == 0 || mst v.size i a) = true := by subst h43; rfl
    rw [hr]
    clear heq hr h43
    go_enter Tryz.func54, Tryz.ntmps54
    go_wp2_with fail
    go_ret
    exact ⟨rfl, rfl⟩
  by_cases h44 : a = 44
  · skip
    have f0 : ((a.toNat : Int) == 0) = false := heq 0 (by decide) _ (by subst h44; decide)
    have f92 : ((a.toNat : Int) == 92) = false := heq 92 (by decide) _ (by subst h44; decide)
    have f34 : ((a.toNat : Int) == 34) = false := heq 34 (by decide) _ (by subst h44; decide)
    have f43 : ((a.toNat : Int) == 43) = false := heq 43 (by decide) _ (by subst h44; decide)
    have f44 : ((a.toNat : Int) == 44) = true := heq 44 (by decide) _ (by subst h44; decide)
    have f59 : ((a.toNat : Int) == 59) = false := heq 59 (by decide) _ (by subst h44; decide)
    have f60 : ((a.toNat : Int) == 60) = false := heq 60 (by decide) _ (by subst h44; decide)
    have f62 : ((a.toNat : Int) == 62) = false := heq 62 (by decide) _ (by subst h44; decide)
    have f32 : ((a.toNat : Int) == 32) = false := heq 32 (by decide) _ (by subst h44; decide)
    have f35 : ((a.toNat : Int) == 35) = false := heq 35 (by decide) _ (by subst h44; decide)
    have hr : (a == 0 || mst v.size i a) = true := by subst h44; rfl
    rw [hr]
    clear heq hr h44
    go_enter Tryz.func54, Tryz.ntmps54
    go_wp2_with fail
    go_ret
    exact ⟨rfl, rfl⟩
  by_cases h59 : a = 59
  · skip
    have f0 : ((a.toNat : Int) == 0) = false := heq 0 (by decide) _ (by subst h59; decide)
    have f92 : ((a.toNat : Int) == 92) = false := heq 92 (by decide) _ (by subst h59; decide)
    have f34 : ((a.toNat : Int) == 34) = false := heq 34 (by decide) _ (by subst h59; decide)
    have f43 : ((a.toNat : Int) == 43) = false := heq 43 (by decide) _ (by subst h59; decide)
    have f44 : ((a.toNat : Int) == 44) = false := heq 44 (by decide) _ (by subst h59; decide)
    have f59 : ((a.toNat : Int) == 59) = true := heq 59 (by decide) _ (by subst h59; decide)
    have f60 : ((a.toNat : Int) == 60) = false := heq 60 (by decide) _ (by subst h59; decide)
    have f62 : ((a.toNat : Int) == 62) = false := heq 62 (by decide) _ (by subst h59; decide)
    have f32 : ((a.toNat : Int) == 32) = false := heq 32 (by decide) _ (by subst h59; decide)
    have f35 : ((a.toNat : Int) == 35) = false := heq 35 (by decide) _ (by subst h59; decide)
    have hr : (a == 0 || mst v.size i a) = true := by subst h59; rfl
    rw [hr]
    clear heq hr h59
    go_enter Tryz.func54, Tryz.ntmps54
    go_wp2_with fail
    go_ret
    exact ⟨rfl, rfl⟩
  by_cases h60 : a = 60
  · skip
    have f0 : ((a.toNat : Int) == 0) = false := heq 0 (by decide) _ (by subst h60; decide)
    have f92 : ((a.toNat : Int) == 92) = false := heq 92 (by decide) _ (by subst h60; decide)
    have f34 : ((a.toNat : Int) == 34) = false := heq 34 (by decide) _ (by subst h60; decide)
    have f43 : ((a.toNat : Int) == 43) = false := heq 43 (by decide) _ (by subst h60; decide)
    have f44 : ((a.toNat : Int) == 44) = false := heq 44 (by decide) _ (by subst h60; decide)
    have f59 : ((a.toNat : Int) == 59) = false := heq 59 (by decide) _ (by subst h60; decide)
    have f60 : ((a.toNat : Int) == 60) = true := heq 60 (by decide) _ (by subst h60; decide)
    have f62 : ((a.toNat : Int) == 62) = false := heq 62 (by decide) _ (by subst h60; decide)
    have f32 : ((a.toNat : Int) == 32) = false := heq 32 (by decide) _ (by subst h60; decide)
    have f35 : ((a.toNat : Int) == 35) = false := heq 35 (by decide) _ (by subst h60; decide)
    have hr : (a == 0 || mst v.size i a) = true := by subst h60; rfl
    rw [hr]
    clear heq hr h60
    go_enter Tryz.func54, Tryz.ntmps54
    go_wp2_with fail
    go_ret
    exact ⟨rfl, rfl⟩
  by_cases h62 : a = 62
  · skip
    have f0 : ((a.toNat : Int) == 0) = false := heq 0 (by decide) _ (by subst h62; decide)
    have f92 : ((a.toNat : Int) == 92) = false := heq 92 (by decide) _ (by subst h62; decide)
    have f34 : ((a.toNat : Int) == 34) = false := heq 34 (by decide) _ (by subst h62; decide)
    have f43 : ((a.toNat : Int) == 43) = false := heq 43 (by decide) _ (by subst h62; decide)
    have f44 : ((a.toNat : Int) == 44) = false := heq 44 (by decide) _ (by subst h62; decide)
    have f59 : ((a.toNat : Int) == 59) = false := heq 59 (by decide) _ (by subst h62; decide)
    have f60 : ((a.toNat : Int) == 60) = false := heq 60 (by decide) _ (by subst h62; decide)
    have f62 : ((a.toNat : Int) == 62) = true := heq 62 (by decide) _ (by subst h62; decide)
    have f32 : ((a.toNat : Int) == 32) = false := heq 32 (by decide) _ (by subst h62; decide)
    have f35 : ((a.toNat : Int) == 35) = false := heq 35 (by decide) _ (by subst h62; decide)
    have hr : (a == 0 || mst v.size i a) = true := by subst h62; rfl
    rw [hr]
    clear heq hr h62
    go_enter Tryz.func54, Tryz.ntmps54
    go_wp2_with fail
    go_ret
    exact ⟨rfl, rfl⟩
  by_cases h32 : a = 32
  · skip
    have f0 : ((a.toNat : Int) == 0) = false := heq 0 (by decide) _ (by subst h32; decide)
    have f92 : ((a.toNat : Int) == 92) = false := heq 92 (by decide) _ (by subst h32; decide)
    have f34 : ((a.toNat : Int) == 34) = false := heq 34 (by decide) _ (by subst h32; decide)
    have f43 : ((a.toNat : Int) == 43) = false := heq 43 (by decide) _ (by subst h32; decide)
    have f44 : ((a.toNat : Int) == 44) = false := heq 44 (by decide) _ (by subst h32; decide)
    have f59 : ((a.toNat : Int) == 59) = false := heq 59 (by decide) _ (by subst h32; decide)
    have f60 : ((a.toNat : Int) == 60) = false := heq 60 (by decide) _ (by subst h32; decide)
    have f62 : ((a.toNat : Int) == 62) = false := heq 62 (by decide) _ (by subst h32; decide)
    have f32 : ((a.toNat : Int) == 32) = true := heq 32 (by decide) _ (by subst h32; decide)
    have f35 : ((a.toNat : Int) == 35) = false := heq 35 (by decide) _ (by subst h32; decide)
    by_cases hz : i = 0
    · have g1 : ((i : Int) == 0) = true := by rw [hz]; rfl
      have hr : (a == 0 || mst v.size i a) = true := by subst h32; subst hz; simp [mst]
      rw [hr]
      clear heq hr h32 hz
      go_enter Tryz.func54, Tryz.ntmps54
      go_wp2_with fail
      go_ret
      exact ⟨rfl, rfl⟩
    · have g1 : ((i : Int) == 0) = false := by rw [beq_eq_false_iff_ne]; omega
      obtain ⟨z, hzz⟩ : ∃ z : Nat, v.size - 1 = z := ⟨_, rfl⟩
      have hw : (v.size : Int) - 1 = (z : Int) := by omega
      by_cases hl : i = z
      · have g2 : ((i : Int) == (z : Int)) = true := by rw [hl]; simp
        have hr : (a == 0 || mst v.size i a) = true := by
          have : i + 1 = v.size := by omega
          subst h32; unfold mst; simp [this]
        rw [hr]
        have hl' : Hid (i = z) := hl
        clear heq hr h32 hzz hl
        go_enter Tryz.func54, Tryz.ntmps54
        go_wp2_with fail
        go_ret
        exact ⟨rfl, rfl⟩
      · have g2 : ((i : Int) == (z : Int)) = false := by rw [beq_eq_false_iff_ne]; omega
        have hr : (a == 0 || mst v.size i a) = false := by
          have h9 : i + 1 ≠ v.size := by omega
          subst h32; unfold mst; simp [h9, hz]
        rw [hr]
        clear heq hr h32 hzz
        go_enter Tryz.func54, Tryz.ntmps54
        go_wp2_with fail
        go_ret
        exact ⟨rfl, rfl⟩
  by_cases h35 : a = 35
  · skip
    have f0 : ((a.toNat : Int) == 0) = false := heq 0 (by decide) _ (by subst h35; decide)
    have f92 : ((a.toNat : Int) == 92) = false := heq 92 (by decide) _ (by subst h35; decide)
    have f34 : ((a.toNat : Int) == 34) = false := heq 34 (by decide) _ (by subst h35; decide)
    have f43 : ((a.toNat : Int) == 43) = false := heq 43 (by decide) _ (by subst h35; decide)
    have f44 : ((a.toNat : Int) == 44) = false := heq 44 (by decide) _ (by subst h35; decide)
    have f59 : ((a.toNat : Int) == 59) = false := heq 59 (by decide) _ (by subst h35; decide)
    have f60 : ((a.toNat : Int) == 60) = false := heq 60 (by decide) _ (by subst h35; decide)
    have f62 : ((a.toNat : Int) == 62) = false := heq 62 (by decide) _ (by subst h35; decide)
    have f32 : ((a.toNat : Int) == 32) = false := heq 32 (by decide) _ (by subst h35; decide)
    have f35 : ((a.toNat : Int) == 35) = true := heq 35 (by decide) _ (by subst h35; decide)
    by_cases hz : i = 0
    · have g1 : ((i : Int) == 0) = true := by rw [hz]; rfl
      have hr : (a == 0 || mst v.size i a) = true := by subst h35; subst hz; simp [mst]
      rw [hr]
      clear heq hr h35 hz
      go_enter Tryz.func54, Tryz.ntmps54
      go_wp2_with fail
      go_ret
      exact ⟨rfl, rfl⟩
    · have g1 : ((i : Int) == 0) = false := by rw [beq_eq_false_iff_ne]; omega
      have hr : (a == 0 || mst v.size i a) = false := by subst h35; unfold mst; simp [hz]
      rw [hr]
      clear heq hr h35
      go_enter Tryz.func54, Tryz.ntmps54
      go_wp2_with fail
      go_ret
      exact ⟨rfl, rfl⟩
  have f0 : ((a.toNat : Int) == 0) = false := heq 0 (by decide) _ (by rw [decide_eq_false_iff_not]; exact h0)
  have f92 : ((a.toNat : Int) == 92) = false := heq 92 (by decide) _ (by rw [decide_eq_false_iff_not]; exact h92)
  have f34 : ((a.toNat : Int) == 34) = false := heq 34 (by decide) _ (by rw [decide_eq_false_iff_not]; exact h34)
  have f43 : ((a.toNat : Int) == 43) = false := heq 43 (by decide) _ (by rw [decide_eq_false_iff_not]; exact h43)
  have f44 : ((a.toNat : Int) == 44) = false := heq 44 (by decide) _ (by rw [decide_eq_false_iff_not]; exact h44)
  have f59 : ((a.toNat : Int) == 59) = false := heq 59 (by decide) _ (by rw [decide_eq_false_iff_not]; exact h59)
  have f60 : ((a.toNat : Int) == 60) = false := heq 60 (by decide) _ (by rw [decide_eq_false_iff_not]; exact h60)
  have f62 : ((a.toNat : Int) == 62) = false := heq 62 (by decide) _ (by rw [decide_eq_false_iff_not]; exact h62)
  have f32 : ((a.toNat : Int) == 32) = false := heq 32 (by decide) _ (by rw [decide_eq_false_iff_not]; exact h32)
  have f35 : ((a.toNat : Int) == 35) = false := heq 35 (by decide) _ (by rw [decide_eq_false_iff_not]; exact h35)
  have hr : (a == 0 || mst v.size i a) = false := by
    unfold mst
    simp [h0, h92, h34, h43, h44, h59, h60, h62, h32, h35]
  rw [hr]
  clear heq hr
  go_enter Tryz.func54, Tryz.ntmps54
  go_wp2_with fail
  go_ret
  exact ⟨rfl, rfl⟩
end Pa
end Go.Proofs.YtkknenmpdimdbaaGreatDoor
