import Derived.Test.YtkknenmpdimdbaaGreatDoorFW9
import Derived.Test.YtkknenmpdimdbaaGreatDoorFW19
import Derived.Test.YtkknenmpdimdbaaGreatDoorBytes
import Derived.Test.YtkknenmpdimdbaaGreatDoorFW11
import Derived.Deep.RegionHeld3
import Derived.BigQuiet
import Derived.Test.YtkknenmpdimdbaaGreatDoorAtShelf
import Derived.Shelf.Abstract
namespace Go.Proofs.YtkknenmpdimdbaaGreatDoor
namespace Pa
open TextMath (fold lo normal check wo)
open Ke (tyOk tyC utf PR)
set_option linter.unusedVariables false
def tb (c : UInt8) : Bool := decide (97 ≤ c.toNat ∧ c.toNat ≤ 122) || decide (65 ≤ c.toNat ∧ c.toNat ≤ 90) || decide (48 ≤ c.toNat ∧ c.toNat ≤ 57) || decide (c.toNat = 45) || decide (c.toNat = 46)
def hd (c : UInt8) : Bool := (wo c).isSome
def hb (a b : UInt8) : UInt8 := UInt8.ofNat (16 * (wo a).getD 0 + (wo b).getD 0)
def esL : List UInt8 := [92, 34, 43, 44, 59, 60, 62, 35, 61, 32]
def es (c : UInt8) : Bool := esL.contains c
def bar (c : UInt8) : Bool := c == 0 || c == 34 || c == 59 || c == 60 || c == 62
def kB : List UInt8 → Nat
 | [] => 1
 | a :: r => if es a = true then 4 else match r with
  | [] => 1
  | b :: _ => if (hd a && hd b) = true then 3 else 1
def kO : List UInt8 → Nat
 | [] => 0
 | c :: r => if c = 44 ∨ c = 43 then 0 else if c = 92 then kB r else if bar c = true then 2 else if c = 32 then 6 else 5
abbrev VR := Except (Nat × Nat) (List UInt8 × List UInt8)
def tv : Nat → List UInt8 → List UInt8 → Nat → VR
 | 0, l, a, c => .error (0, l.length)
 | n + 1, l, a, c =>
  if kO l = 0 then .ok (a.take c, l)
  else if kO l = 1 then .error (54, l.length)
  else if kO l = 2 then .error (55, l.length)
  else if kO l = 3 then tv n (l.drop 3) (a ++ [hb (l.getD 1 0) (l.getD 2 0)]) (a.length + 1)
  else if kO l = 4 then tv n (l.drop 2) (a ++ [l.getD 1 0]) (a.length + 1)
  else if kO l = 5 then tv n (l.drop 1) (a ++ [l.getD 0 0]) (a.length + 1)
  else tv n (l.drop 1) (a ++ [l.getD 0 0]) c
def pv (hx : List UInt8 → Option VR) (l : List UInt8) : Option VR :=
 (if l.head? = some 35 then hx (l.drop 1) else some (tv (l.length + 1) l [] 0)).map fun v => match v with
  | .error e => .error e
  | .ok x => if utf x.1 = true then .ok x else .error (51, l.length)
def sp (l : List UInt8) : List UInt8 := l.dropWhile (· == 32)
def pt (ahead : List (List UInt8)) (l : List UInt8) : VR :=
 if tyOk (l.takeWhile tb) = false then .error (52, l.length)
 else if tyC (l.takeWhile tb) ∈ ahead then .error (57, l.length)
 else if (sp (l.dropWhile tb)).head? = some 61 then .ok (l.takeWhile tb, sp ((sp (l.dropWhile tb)).drop 1))
 else .error (53, (sp (l.dropWhile tb)).length)
abbrev PRs := Except (Nat × Nat) (List PR × List UInt8)
def prt (hx : List UInt8 → Option VR) : Nat → Nat → List PR → List UInt8 → Option PRs
 | 0, _, _, _ => none
 | n + 1, num, ps, l =>
  if num = 64 ∨ ps.length = 8 then some (.error (58, (sp l).length))
  else match pt (ps.map fun p => tyC p.1) (sp l) with
   | .error e => some (.error e)
   | .ok x => match pv hx x.2 with
    | none => none
    | some (.error e) => some (.error e)
    | some (.ok y) => if y.2.head? = some 43 then prt hx n num (ps ++ [(x.1, y.1)]) (y.2.drop 1) else some (.ok (ps ++ [(x.1, y.1)], y.2))
abbrev DRs := Except (Nat × Nat) (List (List PR))
def nmP (hx : List UInt8 → Option VR) : Nat → List (List PR) → List UInt8 → Option DRs
 | 0, _, _ => none
 | n + 1, D, l => match prt hx 9 D.length [] l with
  | none => none
  | some (.error e) => some (.error e)
  | some (.ok x) => if x.2.head? = some 44 then nmP hx n (D ++ [x.1]) (x.2.drop 1) else some (.ok (D ++ [x.1]))
def prs (hx : List UInt8 → Option VR) (s : List UInt8) : Option DRs :=
 if 4096 < s.length then some (.error (50, s.length - 4096))
 else if utf s = false then some (.error (51, s.length - (check s).2))
 else if s = [] then some (.ok [])
 else nmP hx 65 [] s
theorem tv_step (n : Nat) (l a : List UInt8) (c : Nat) : tv (n + 1) l a c = if kO l = 0 then .ok (a.take c, l)
  else if kO l = 1 then .error (54, l.length)
  else if kO l = 2 then .error (55, l.length)
  else if kO l = 3 then tv n (l.drop 3) (a ++ [hb (l.getD 1 0) (l.getD 2 0)]) (a.length + 1)
  else if kO l = 4 then tv n (l.drop 2) (a ++ [l.getD 1 0]) (a.length + 1)
  else if kO l = 5 then tv n (l.drop 1) (a ++ [l.getD 0 0]) (a.length + 1)
  else tv n (l.drop 1) (a ++ [l.getD 0 0]) c := rfl
end Pa
end Go.Proofs.YtkknenmpdimdbaaGreatDoor

namespace Go.Proofs.YtkknenmpdimdbaaGreatDoor
namespace Pa
open Go.RowKit
open TextMath (fold lo normal check wo)
open Ke (tyOk tyC utf PR)
set_option linter.unusedVariables false
set_option linter.unusedSimpArgs false
def Rd (W : World) (b : Nat) (s : ByteArray) (p : Nat) : Prop := W.heap[b]? = some (.cells #[.string s, .int .i64 (p : Int)] 72 (0, 0))
def Wb (b : Nat) (w w' : World) : Prop := Below b w w' ∧ ∀ k, k < w.heap.size → k ≠ b → w'.heap[k]? = w.heap[k]?
variable {w w' w1 w2 W W' : World} {b p q : Nat} {s : ByteArray}
theorem Wb.refl (b : Nat) (w : World) : Wb b w w := ⟨Below.refl _ _, fun _ _ _ => rfl⟩
theorem Wb.size (h : Wb b w w') : w.heap.size ≤ w'.heap.size := h.1.size
theorem Wb.trans (h1 : Wb b w w1) (h2 : Wb b w1 w2) : Wb b w w2 := ⟨h1.1.trans h2.1, fun k hk hne => by rw [h2.2 k (Nat.lt_of_lt_of_le hk h1.size) hne, h1.2 k hk hne]⟩
theorem Wb.of_below (hb : Below w.heap.size w w') (h : b ≤ w.heap.size) : Wb b w w' := ⟨hb.mono h, fun k hk _ => hb.block k hk⟩
theorem Wb.set (h : Wb b w w') (i : Nat) (v : Value) : Wb b w (w'.setCell ⟨b, i, none⟩ v) := ⟨h.1.setCell (p := ⟨b, i, none⟩) (Nat.le_refl _) v, fun k hk hne => by rw [Go.heap_setCell_other _ _ _ _ (show k ≠ b from hne), h.2 k hk hne]⟩
theorem Wb.cell (h : Wb b w w') {k o : Nat} {v : Value} (hc : w.cell? ⟨k, o, none⟩ = some v) (hne : k ≠ b) : w'.cell? ⟨k, o, none⟩ = some v := by
 have hk := World.block_lt_of_cell? _ _ hc
 rw [← hc]
 unfold World.cell?
 rw [h.2 k hk hne]
theorem Rd.lt (h : Rd W b s p) : b < W.heap.size := (Array.getElem?_eq_some_iff.1 h).1
theorem Rd.cells (h : Rd W b s p) : W.cell? ⟨b, 0, none⟩ = some (.string s) ∧ W.cell? ⟨b, 1, none⟩ = some (.int .i64 (p : Int)) ∧ W.frozen? ⟨b, 1, none⟩ = false := by
 have h := h
 unfold Rd at h
 exact ⟨by simp [World.cell?, h], by simp [World.cell?, h], by simp [World.frozen?, h]⟩
theorem Rd.set (h : Rd W b s p) (q : Nat) : Rd (W.setCell ⟨b, 1, none⟩ (.int .i64 (q : Int))) b s q := by
 unfold Rd at *
 rw [Go.heap_setCell_same _ _ _ _ _ _ h]
 simp
theorem Rd.below (h : Rd W b s p) (hb : Below W.heap.size W W') : Rd W' b s p := by
 unfold Rd at *
 rw [hb.block b (Array.getElem?_eq_some_iff.1 h).1]
 exact h
abbrev lf (s : ByteArray) (p : Nat) : List UInt8 := s.data.toList.drop p
theorem lf_cons (h : p < s.size) : lf s p = s[p] :: lf s (p + 1) := by
 unfold lf
 rw [List.drop_eq_getElem_cons (by rw [size_l]; exact h)]
 rfl
theorem lf_nil (h : s.size ≤ p) : lf s p = [] := List.drop_of_length_le (by rw [size_l]; exact h)
theorem lf_len : (lf s p).length = s.size - p := by unfold lf; rw [List.length_drop, size_l]
theorem lf_drop (n : Nat) : (lf s p).drop n = lf s (p + n) := by unfold lf; rw [List.drop_drop]
end Pa
end Go.Proofs.YtkknenmpdimdbaaGreatDoor

namespace Go.Proofs.YtkknenmpdimdbaaGreatDoor
namespace Pa
open Go.RowKit
open TextMath (fold lo normal check wo)
open Ke (tyOk tyC utf PR)
set_option linter.unusedVariables false
set_option linter.unusedSimpArgs false
set_option maxRecDepth 100000
def TkQ (c : UInt8) (s : ByteArray) (p b : Nat) (w : World) (e : Ending) (w' : World) : Prop :=
 ((lf s p).head? = some c ∧ p < s.size ∧ e = .returned (.bool true) ∧ Rd w' b s (p + 1) ∧ Wb b w w') ∨ ((lf s p).head? ≠ some c ∧ e = .returned (.bool false) ∧ Rd w' b s p ∧ Wb b w w')
theorem lf_head {s : ByteArray} {p : Nat} (h : p < s.size) : (lf s p).head? = some s[p] := by rw [lf_cons h]; rfl
theorem lf_none {s : ByteArray} {p : Nat} (h : s.size ≤ p) : (lf s p).head? = none := by rw [lf_nil h]; rfl
theorem wb_drew {w : World} {b n : Nat} : Wb b w (w.drewN n) := ⟨⟨rfl, rfl, rfl, Nat.le_refl _, fun _ _ => rfl⟩, fun _ _ _ => rfl⟩
set_option maxHeartbeats 1000000 in
theorem take_any (c : UInt8) (s : ByteArray) (p b : Nat) (w : World) (h : Rd w b s p) (hp : p ≤ s.size) (hs : s.size ≤ 4096) :
  Calls Tryz.prog 58 #[.pointer (some ⟨b, 0, none⟩), .int .u8 (c.toNat : Int)] w fun e w' => TkQ c s p b w e w' := by
 obtain ⟨c0, c1, z1⟩ := h.cells
 have h' : Hid (Rd w b s p) := h
 have p0 : (0 : Int) ≤ (p : Int) := Int.natCast_nonneg _
 have pb : (p : Int) ≤ 4096 := by omega
 clear h
 by_cases hlt : p < s.size
 ·have k1 : (p : Int) < (s.size : Int) := Int.ofNat_lt.2 hlt
  have g1 : ((p : Int) == (s.size : Int)) = false := by rw [beq_eq_false_iff_ne]; omega
  have hh : Hid ((lf s p).head? = some s[p]) := lf_head hlt
  obtain ⟨x, hx⟩ : ∃ x, s[p] = x := ⟨_, rfl⟩
  rw [hx] at hh
  by_cases hc : x = c
  ·subst hc
   have g2 : ((x.toNat : Int) != (x.toNat : Int)) = false := by simp
   have hlt' : Hid (p < s.size) := hlt
   have hd1 : (w.cell? ⟨b, 1, none⟩ = some (.int .i64 (p : Int)) ∧ w.frozen? ⟨b, 1, none⟩ = false) := ⟨c1, z1⟩
   go_enter Tryz.func58, Tryz.ntmps58
   go_wp2_with fail
   go_quiet (fail)
   rename_i nq
   have hR : Hid (Rd (w.drewN nq) b s p ∧ Wb b w (w.drewN nq)) := ⟨h'.out, wb_drew⟩
   obtain ⟨W2, hW2⟩ : ∃ W, w.drewN nq = W := ⟨_, rfl⟩
   rw [hW2] at hR ⊢
   obtain ⟨d0, d1, d2⟩ := hR.out.1.cells
   clear hW2 c0 c1 z1 hd1
   go_wp2_with fail
   go_ret
   exact Or.inl ⟨hh.out, hlt'.out, rfl, hR.out.1.set (p + 1), hR.out.2.set 1 _⟩
  ·have g2 : ((x.toNat : Int) != (c.toNat : Int)) = true := by
    have : x.toNat ≠ c.toNat := fun e => hc (UInt8.toNat_inj.1 e)
    simp
    omega
   have hc' : Hid (x ≠ c) := hc
   clear hc
   go_enter Tryz.func58, Tryz.ntmps58
   go_wp2_with fail
   go_quiet (fail)
   rename_i nq
   have hR : Hid (Rd (w.drewN nq) b s p ∧ Wb b w (w.drewN nq)) := ⟨h'.out, wb_drew⟩
   obtain ⟨W2, hW2⟩ : ∃ W, w.drewN nq = W := ⟨_, rfl⟩
   rw [hW2] at hR ⊢
   clear hW2 c0 c1 z1
   go_wp2_with fail
   go_ret
   exact Or.inr ⟨(by rw [hh.out]; intro e; injection e with e; exact hc'.out e), rfl, hR.out.1, hR.out.2⟩
 ·have hpe : p = s.size := by omega
  have g1 : ((p : Int) == (s.size : Int)) = true := by rw [hpe]; simp
  have hh : Hid ((lf s p).head? = none) := lf_none (by omega)
  have hpe' : Hid (p = s.size) := hpe
  clear hpe hlt
  go_enter Tryz.func58, Tryz.ntmps58
  go_wp2_with fail
  go_quiet (fail)
  rename_i nq
  have hR : Hid (Rd (w.drewN nq) b s p ∧ Wb b w (w.drewN nq)) := ⟨h'.out, wb_drew⟩
  obtain ⟨W2, hW2⟩ : ∃ W, w.drewN nq = W := ⟨_, rfl⟩
  rw [hW2] at hR ⊢
  clear hW2 c0 c1 z1
  go_wp2_with fail
  go_ret
  exact Or.inr ⟨(by rw [hh.out]; intro e; cases e), rfl, hR.out.1, hR.out.2⟩
end Pa
end Go.Proofs.YtkknenmpdimdbaaGreatDoor

namespace Go.Proofs.YtkknenmpdimdbaaGreatDoor
namespace Pa
open Go.RowKit
open TextMath (fold lo normal check wo)
set_option linter.unusedVariables false
set_option linter.unusedSimpArgs false
set_option maxRecDepth 100000
def dig (c : UInt8) : Bool := decide (48 ≤ c.toNat) && decide (c.toNat ≤ 57)
theorem hd_eq (c : UInt8) : hd c = (dig c || (decide (97 ≤ c.toNat) && decide (c.toNat ≤ 102)) || (decide (65 ≤ c.toNat) && decide (c.toNat ≤ 70))) := by
 unfold hd wo dig
 by_cases h1 : 48 ≤ c.toNat ∧ c.toNat ≤ 57
 ·simp [h1]
 ·by_cases h2 : 97 ≤ c.toNat ∧ c.toNat ≤ 102
  ·simp [h1, h2]
  ·by_cases h3 : 65 ≤ c.toNat ∧ c.toNat ≤ 70
   ·simp [h1, h2, h3]
   ·rw [if_neg h1, if_neg h2, if_neg h3]
    simp
    omega
theorem dig_eq (c : UInt8) : dig c = decide (48 ≤ c.toNat ∧ c.toNat ≤ 57) := by unfold dig; simp
theorem tb_eq (c : UInt8) : tb c = decide ((97 ≤ c.toNat ∧ c.toNat ≤ 122) ∨ (65 ≤ c.toNat ∧ c.toNat ≤ 90) ∨ (48 ≤ c.toNat ∧ c.toNat ≤ 57) ∨ c.toNat = 45 ∨ c.toNat = 46) := by
 unfold tb
 rw [Bool.eq_iff_iff]
 simp only [Bool.or_eq_true, decide_eq_true_eq]
 omega
set_option maxHeartbeats 1000000 in
theorem dg1 (c : UInt8) (w : World) (a48 : (48 : Int) ≤ (c.toNat : Int)) (b57 : (c.toNat : Int) ≤ 57) : Calls Tryz.prog 148 #[.int .u8 (c.toNat : Int)] w fun e w' => e = .returned (.bool true) ∧ w' = w := by
 go_enter Tryz.func148, Tryz.ntmps148
 go_wp2_with fail
 go_ret
 exact ⟨rfl, rfl⟩
set_option maxHeartbeats 1000000 in
theorem dg2 (c : UInt8) (w : World) (a48 : (48 : Int) ≤ (c.toNat : Int)) (b57 : ¬ (c.toNat : Int) ≤ 57) : Calls Tryz.prog 148 #[.int .u8 (c.toNat : Int)] w fun e w' => e = .returned (.bool false) ∧ w' = w := by
 go_enter Tryz.func148, Tryz.ntmps148
 go_wp2_with fail
 go_ret
 exact ⟨rfl, rfl⟩
set_option maxHeartbeats 1000000 in
theorem dg3 (c : UInt8) (w : World) (a48 : ¬ (48 : Int) ≤ (c.toNat : Int)) : Calls Tryz.prog 148 #[.int .u8 (c.toNat : Int)] w fun e w' => e = .returned (.bool false) ∧ w' = w := by
 go_enter Tryz.func148, Tryz.ntmps148
 go_wp2_with fail
 go_ret
 exact ⟨rfl, rfl⟩
theorem digit_any (c : UInt8) (w : World) : Calls Tryz.prog 148 #[.int .u8 (c.toNat : Int)] w fun e w' => e = .returned (.bool (dig c)) ∧ w' = w := by
 by_cases k0 : 48 ≤ c.toNat ∧ c.toNat ≤ 57
 ·have hr : dig c = true := by rw [dig_eq]; simp <;> omega
  rw [hr]
  exact dg1 c w (by omega) (by omega)
 by_cases k1 : 48 ≤ c.toNat
 ·have hr : dig c = false := by rw [dig_eq]; simp <;> omega
  rw [hr]
  exact dg2 c w (by omega) (by omega)
 have hr : dig c = false := by rw [dig_eq]; simp <;> omega
 rw [hr]
 exact dg3 c w (by omega)
set_option maxHeartbeats 1000000 in
theorem tb1 (c : UInt8) (w : World) (a97 : (97 : Int) ≤ (c.toNat : Int)) (b122 : (c.toNat : Int) ≤ 122) : Calls Tryz.prog 119 #[.int .u8 (c.toNat : Int)] w fun e w' => e = .returned (.bool true) ∧ w' = w := by
 go_enter Tryz.func119, Tryz.ntmps119
 go_wp2_with fail
 go_ret
 exact ⟨rfl, rfl⟩
set_option maxHeartbeats 1000000 in
theorem tb2 (c : UInt8) (w : World) (a97 : (97 : Int) ≤ (c.toNat : Int)) (b122 : ¬ (c.toNat : Int) ≤ 122) (a65 : (65 : Int) ≤ (c.toNat : Int)) (b90 : ¬ (c.toNat : Int) ≤ 90) (dig : dig c = false) (e45 : ((c.toNat : Int) == 45) = false) (e46 : ((c.toNat : Int) == 46) = false) : Calls Tryz.prog 119 #[.int .u8 (c.toNat : Int)] w fun e w' => e = .returned (.bool false) ∧ w' = w := by
 go_enter Tryz.func119, Tryz.ntmps119
 go_wp2_with (go_at_call 148; refine (digit_any c _).mono ?_; rintro e w' ⟨rfl, rfl⟩; rw [dig])
 go_ret
 exact ⟨rfl, rfl⟩
set_option maxHeartbeats 1000000 in
theorem tb3 (c : UInt8) (w : World) (a97 : ¬ (97 : Int) ≤ (c.toNat : Int)) (a65 : (65 : Int) ≤ (c.toNat : Int)) (b90 : (c.toNat : Int) ≤ 90) : Calls Tryz.prog 119 #[.int .u8 (c.toNat : Int)] w fun e w' => e = .returned (.bool true) ∧ w' = w := by
 go_enter Tryz.func119, Tryz.ntmps119
 go_wp2_with fail
 go_ret
 exact ⟨rfl, rfl⟩
set_option maxHeartbeats 1000000 in
theorem tb4 (c : UInt8) (w : World) (a97 : ¬ (97 : Int) ≤ (c.toNat : Int)) (a65 : (65 : Int) ≤ (c.toNat : Int)) (b90 : ¬ (c.toNat : Int) ≤ 90) (dig : dig c = false) (e45 : ((c.toNat : Int) == 45) = false) (e46 : ((c.toNat : Int) == 46) = false) : Calls Tryz.prog 119 #[.int .u8 (c.toNat : Int)] w fun e w' => e = .returned (.bool false) ∧ w' = w := by
 go_enter Tryz.func119, Tryz.ntmps119
 go_wp2_with (go_at_call 148; refine (digit_any c _).mono ?_; rintro e w' ⟨rfl, rfl⟩; rw [dig])
 go_ret
 exact ⟨rfl, rfl⟩
set_option maxHeartbeats 1000000 in
theorem tb5 (c : UInt8) (w : World) (a97 : ¬ (97 : Int) ≤ (c.toNat : Int)) (a65 : ¬ (65 : Int) ≤ (c.toNat : Int)) (dig : dig c = true) : Calls Tryz.prog 119 #[.int .u8 (c.toNat : Int)] w fun e w' => e = .returned (.bool true) ∧ w' = w := by
 go_enter Tryz.func119, Tryz.ntmps119
 go_wp2_with (go_at_call 148; refine (digit_any c _).mono ?_; rintro e w' ⟨rfl, rfl⟩; rw [dig])
 go_ret
 exact ⟨rfl, rfl⟩
set_option maxHeartbeats 1000000 in
theorem tb6 (c : UInt8) (w : World) (a97 : ¬ (97 : Int) ≤ (c.toNat : Int)) (a65 : ¬ (65 : Int) ≤ (c.toNat : Int)) (dig : dig c = false) (e45 : ((c.toNat : Int) == 45) = true) : Calls Tryz.prog 119 #[.int .u8 (c.toNat : Int)] w fun e w' => e = .returned (.bool true) ∧ w' = w := by
 go_enter Tryz.func119, Tryz.ntmps119
 go_wp2_with (go_at_call 148; refine (digit_any c _).mono ?_; rintro e w' ⟨rfl, rfl⟩; rw [dig])
 go_ret
 exact ⟨rfl, rfl⟩
set_option maxHeartbeats 1000000 in
theorem tb7 (c : UInt8) (w : World) (a97 : ¬ (97 : Int) ≤ (c.toNat : Int)) (a65 : ¬ (65 : Int) ≤ (c.toNat : Int)) (dig : dig c = false) (e45 : ((c.toNat : Int) == 45) = false) (e46 : ((c.toNat : Int) == 46) = true) : Calls Tryz.prog 119 #[.int .u8 (c.toNat : Int)] w fun e w' => e = .returned (.bool true) ∧ w' = w := by
 go_enter Tryz.func119, Tryz.ntmps119
 go_wp2_with (go_at_call 148; refine (digit_any c _).mono ?_; rintro e w' ⟨rfl, rfl⟩; rw [dig])
 go_ret
 exact ⟨rfl, rfl⟩
set_option maxHeartbeats 1000000 in
theorem tb8 (c : UInt8) (w : World) (a97 : ¬ (97 : Int) ≤ (c.toNat : Int)) (a65 : ¬ (65 : Int) ≤ (c.toNat : Int)) (dig : dig c = false) (e45 : ((c.toNat : Int) == 45) = false) (e46 : ((c.toNat : Int) == 46) = false) : Calls Tryz.prog 119 #[.int .u8 (c.toNat : Int)] w fun e w' => e = .returned (.bool false) ∧ w' = w := by
 go_enter Tryz.func119, Tryz.ntmps119
 go_wp2_with (go_at_call 148; refine (digit_any c _).mono ?_; rintro e w' ⟨rfl, rfl⟩; rw [dig])
 go_ret
 exact ⟨rfl, rfl⟩
theorem typeByte_any (c : UInt8) (w : World) : Calls Tryz.prog 119 #[.int .u8 (c.toNat : Int)] w fun e w' => e = .returned (.bool (tb c)) ∧ w' = w := by
 by_cases k0 : 97 ≤ c.toNat ∧ c.toNat ≤ 122
 ·have hr : tb c = true := by rw [tb_eq]; simp <;> omega
  rw [hr]
  exact tb1 c w (by omega) (by omega)
 by_cases k1 : 122 < c.toNat
 ·have hr : tb c = false := by rw [tb_eq]; simp <;> omega
  rw [hr]
  exact tb2 c w (by omega) (by omega) (by omega) (by omega) (by rw [dig_eq]; simp <;> omega) (by simp <;> omega) (by simp <;> omega)
 by_cases k2 : 65 ≤ c.toNat ∧ c.toNat ≤ 90
 ·have hr : tb c = true := by rw [tb_eq]; simp <;> omega
  rw [hr]
  exact tb3 c w (by omega) (by omega) (by omega)
 by_cases k3 : 90 < c.toNat
 ·have hr : tb c = false := by rw [tb_eq]; simp <;> omega
  rw [hr]
  exact tb4 c w (by omega) (by omega) (by omega) (by rw [dig_eq]; simp <;> omega) (by simp <;> omega) (by simp <;> omega)
 by_cases k4 : 48 ≤ c.toNat ∧ c.toNat ≤ 57
 ·have hr : tb c = true := by rw [tb_eq]; simp <;> omega
  rw [hr]
  exact tb5 c w (by omega) (by omega) (by rw [dig_eq]; simp <;> omega)
 by_cases k5 : c.toNat = 45
 ·have hr : tb c = true := by rw [tb_eq]; simp <;> omega
  rw [hr]
  exact tb6 c w (by omega) (by omega) (by rw [dig_eq]; simp <;> omega) (by simp <;> omega)
 by_cases k6 : c.toNat = 46
 ·have hr : tb c = true := by rw [tb_eq]; simp <;> omega
  rw [hr]
  exact tb7 c w (by omega) (by omega) (by rw [dig_eq]; simp <;> omega) (by simp <;> omega) (by simp <;> omega)
 have hr : tb c = false := by rw [tb_eq]; simp <;> omega
 rw [hr]
 exact tb8 c w (by omega) (by omega) (by rw [dig_eq]; simp <;> omega) (by simp <;> omega) (by simp <;> omega)
set_option maxHeartbeats 1000000 in
theorem hd1 (c : UInt8) (w : World) (dig : dig c = true) : Calls Tryz.prog 153 #[.int .u8 (c.toNat : Int)] w fun e w' => e = .returned (.bool true) ∧ w' = w := by
 go_enter Tryz.func153, Tryz.ntmps153
 go_wp2_with (go_at_call 148; refine (digit_any c _).mono ?_; rintro e w' ⟨rfl, rfl⟩; rw [dig])
 go_ret
 exact ⟨rfl, rfl⟩
set_option maxHeartbeats 1000000 in
theorem hd2 (c : UInt8) (w : World) (dig : dig c = false) (a97 : (97 : Int) ≤ (c.toNat : Int)) (b102 : (c.toNat : Int) ≤ 102) : Calls Tryz.prog 153 #[.int .u8 (c.toNat : Int)] w fun e w' => e = .returned (.bool true) ∧ w' = w := by
 go_enter Tryz.func153, Tryz.ntmps153
 go_wp2_with (go_at_call 148; refine (digit_any c _).mono ?_; rintro e w' ⟨rfl, rfl⟩; rw [dig])
 go_ret
 exact ⟨rfl, rfl⟩
set_option maxHeartbeats 1000000 in
theorem hd3 (c : UInt8) (w : World) (dig : dig c = false) (a97 : (97 : Int) ≤ (c.toNat : Int)) (b102 : ¬ (c.toNat : Int) ≤ 102) (a65 : (65 : Int) ≤ (c.toNat : Int)) (b70 : ¬ (c.toNat : Int) ≤ 70) : Calls Tryz.prog 153 #[.int .u8 (c.toNat : Int)] w fun e w' => e = .returned (.bool false) ∧ w' = w := by
 go_enter Tryz.func153, Tryz.ntmps153
 go_wp2_with (go_at_call 148; refine (digit_any c _).mono ?_; rintro e w' ⟨rfl, rfl⟩; rw [dig])
 go_ret
 refine ⟨?_, rfl⟩
 show Ending.returned (.bool _) = _
 simp [b102, b70]
set_option maxHeartbeats 1000000 in
theorem hd4 (c : UInt8) (w : World) (dig : dig c = false) (a97 : ¬ (97 : Int) ≤ (c.toNat : Int)) (a65 : (65 : Int) ≤ (c.toNat : Int)) (b70 : (c.toNat : Int) ≤ 70) : Calls Tryz.prog 153 #[.int .u8 (c.toNat : Int)] w fun e w' => e = .returned (.bool true) ∧ w' = w := by
 go_enter Tryz.func153, Tryz.ntmps153
 go_wp2_with (go_at_call 148; refine (digit_any c _).mono ?_; rintro e w' ⟨rfl, rfl⟩; rw [dig])
 go_ret
 exact ⟨rfl, rfl⟩
set_option maxHeartbeats 1000000 in
theorem hd5 (c : UInt8) (w : World) (dig : dig c = false) (a97 : ¬ (97 : Int) ≤ (c.toNat : Int)) (a65 : (65 : Int) ≤ (c.toNat : Int)) (b70 : ¬ (c.toNat : Int) ≤ 70) : Calls Tryz.prog 153 #[.int .u8 (c.toNat : Int)] w fun e w' => e = .returned (.bool false) ∧ w' = w := by
 go_enter Tryz.func153, Tryz.ntmps153
 go_wp2_with (go_at_call 148; refine (digit_any c _).mono ?_; rintro e w' ⟨rfl, rfl⟩; rw [dig])
 go_ret
 refine ⟨?_, rfl⟩
 show Ending.returned (.bool _) = _
 simp [b70]
set_option maxHeartbeats 1000000 in
theorem hd6 (c : UInt8) (w : World) (dig : dig c = false) (a97 : ¬ (97 : Int) ≤ (c.toNat : Int)) (a65 : ¬ (65 : Int) ≤ (c.toNat : Int)) : Calls Tryz.prog 153 #[.int .u8 (c.toNat : Int)] w fun e w' => e = .returned (.bool false) ∧ w' = w := by
 go_enter Tryz.func153, Tryz.ntmps153
 go_wp2_with (go_at_call 148; refine (digit_any c _).mono ?_; rintro e w' ⟨rfl, rfl⟩; rw [dig])
 go_ret
 exact ⟨rfl, rfl⟩
theorem hexDigit_any (c : UInt8) (w : World) : Calls Tryz.prog 153 #[.int .u8 (c.toNat : Int)] w fun e w' => e = .returned (.bool (hd c)) ∧ w' = w := by
 by_cases k0 : 48 ≤ c.toNat ∧ c.toNat ≤ 57
 ·have hr : hd c = true := by rw [hd_eq, dig_eq]; simp <;> omega
  rw [hr]
  exact hd1 c w (by rw [dig_eq]; simp <;> omega)
 by_cases k1 : 97 ≤ c.toNat ∧ c.toNat ≤ 102
 ·have hr : hd c = true := by rw [hd_eq, dig_eq]; simp <;> omega
  rw [hr]
  exact hd2 c w (by rw [dig_eq]; simp <;> omega) (by omega) (by omega)
 by_cases k2 : 102 < c.toNat
 ·have hr : hd c = false := by rw [hd_eq, dig_eq]; simp <;> omega
  rw [hr]
  exact hd3 c w (by rw [dig_eq]; simp <;> omega) (by omega) (by omega) (by omega) (by omega)
 by_cases k3 : 65 ≤ c.toNat ∧ c.toNat ≤ 70
 ·have hr : hd c = true := by rw [hd_eq, dig_eq]; simp <;> omega
  rw [hr]
  exact hd4 c w (by rw [dig_eq]; simp <;> omega) (by omega) (by omega) (by omega)
 by_cases k4 : 70 < c.toNat ∧ c.toNat < 97
 ·have hr : hd c = false := by rw [hd_eq, dig_eq]; simp <;> omega
  rw [hr]
  exact hd5 c w (by rw [dig_eq]; simp <;> omega) (by omega) (by omega) (by omega)
 have hr : hd c = false := by rw [hd_eq, dig_eq]; simp <;> omega
 rw [hr]
 exact hd6 c w (by rw [dig_eq]; simp <;> omega) (by omega) (by omega)
end Pa
end Go.Proofs.YtkknenmpdimdbaaGreatDoor

namespace Go.Proofs.YtkknenmpdimdbaaGreatDoor
namespace Pa
open Go.RowKit
open TextMath (fold lo normal check wo)
set_option linter.unusedVariables false
set_option linter.unusedSimpArgs false
set_option maxRecDepth 100000
def plc (b : Nat) (W : World) : Nat := match W.cell? ⟨b, 1, none⟩ with
 | some (.int _ i) => i.toNat
 | _ => 0
theorem plc_eq {b p : Nat} {s : ByteArray} {W : World} (h : Rd W b s p) : plc b W = p := by
 unfold plc
 rw [h.cells.2.1]
 simp
theorem tw_cons (P : UInt8 → Bool) {s : ByteArray} {k : Nat} (h : k < s.size) (hp : P s[k] = true) : (lf s k).takeWhile P = s[k] :: (lf s (k + 1)).takeWhile P := by rw [lf_cons h, List.takeWhile_cons, hp]; rfl
theorem tw_stop (P : UInt8 → Bool) {s : ByteArray} {k : Nat} (h : k < s.size) (hp : P s[k] = false) : (lf s k).takeWhile P = [] := by rw [lf_cons h, List.takeWhile_cons, hp]; rfl
theorem tw_end (P : UInt8 → Bool) {s : ByteArray} {k : Nat} (h : s.size ≤ k) : (lf s k).takeWhile P = [] := by rw [lf_nil h]; rfl
theorem ext_lf (s : ByteArray) (p k : Nat) : (s.extract p k).data.toList = (lf s p).take (k - p) := by
 unfold lf
 simp
def RwQ (P : UInt8 → Bool) (s : ByteArray) (p b : Nat) (w : World) (e : Ending) (w' : World) : Prop :=
 e = .returned (.string (S ((lf s p).takeWhile P))) ∧ Rd w' b s (p + ((lf s p).takeWhile P).length) ∧ p + ((lf s p).takeWhile P).length ≤ s.size ∧ Wb b w w'
theorem RwQ.drew {P : UInt8 → Bool} {s : ByteArray} {p b : Nat} {w : World} {e : Ending} {w' : World} (h : RwQ P s p b w e w') (n : Nat) : RwQ P s p b w e (w'.drewN n) := ⟨h.1, h.2.1, h.2.2.1, h.2.2.2.trans wb_drew⟩
set_option maxHeartbeats 2000000 in
theorem row_any (P : UInt8 → Bool) (q : FuncId) (hent : ∀ args W, (callFunc q args).run Tryz.prog W = .ok (.enter q args) W)
  (hq : ∀ (c : UInt8) (w : World), Calls Tryz.prog q #[.int .u8 (c.toNat : Int)] w fun e w' => e = .returned (.bool (P c)) ∧ w' = w)
  (s : ByteArray) (p b : Nat) (w : World) (h : Rd w b s p) (hp : p ≤ s.size) (hs : s.size ≤ 4096) :
  Calls Tryz.prog 117 #[.pointer (some ⟨b, 0, none⟩), .func (.func q) #[] #[]] w fun e w' => RwQ P s p b w e w' := by
 have hq' : ∀ c w, Hid (Calls Tryz.prog q #[.int .u8 (UInt8.toNat c : Int)] w fun e w' => e = .returned (.bool (P c)) ∧ w' = w) := hq
 obtain ⟨c0, c1, z1⟩ := h.cells
 have h' : Hid (Rd w b s p) := h
 have p0 : (0 : Int) ≤ (p : Int) := Int.natCast_nonneg _
 have pb : (p : Int) ≤ 4096 := by omega
 have hs' : Hid (s.size ≤ 4096 ∧ p ≤ s.size) := ⟨hs, hp⟩
 clear h hq
 go_enter Tryz.func117, Tryz.ntmps117
 go_wp2_with fail
 go_loopw [10] (fun _ wr => ∃ k : Nat, Hid (k ≤ s.size ∧ p ≤ k ∧ Rd wr b s k ∧ Wb b w wr ∧ (lf s p).takeWhile P = (s.extract p k).data.toList ++ (lf s k).takeWhile P)) (fun _ wr => s.size - plc b wr)
 case atStart => exact ⟨p, hs'.out.2, Nat.le_refl _, h'.out, Wb.refl _ _, by rw [ext_lf]; simp⟩
 case round =>
  obtain ⟨k, hQ⟩ := hrel
  clear c0 c1 z1
  obtain ⟨c0, c1, z1⟩ := hQ.out.2.2.1.cells
  have k0 : (0 : Int) ≤ (k : Int) := Int.natCast_nonneg _
  have kb : (k : Int) ≤ 4096 := by have := hs'.out.1; have := hQ.out.1; omega
  have pk : p ≤ k := hQ.out.2.1
  have pk' : (p : Int) ≤ (k : Int) := by omega
  have ks : (k : Int) ≤ (s.size : Int) := by have := hQ.out.1; omega
  by_cases hlt : k < s.size
  ·have k1 : (k : Int) < (s.size : Int) := Int.ofNat_lt.2 hlt
   have hcons := tw_cons P hlt
   have hstop := tw_stop P hlt
   have hc := hq' s[k]
   have hsn : Hid ((s.extract p (k + 1)).data.toList = (s.extract p k).data.toList ++ [s[k]]) := by
    unfold Hid
    rw [ext_lf, ext_lf, show k + 1 - p = (k - p) + 1 from by omega, List.take_succ_eq_append_getElem (by rw [lf_len]; omega)]
    congr 2
    unfold lf
    rw [List.getElem_drop]
    have e : p + (k - p) = k := by omega
    simp only [e]
    rfl
   have hcons' : Hid (P s[k] = true → (lf s k).takeWhile P = s[k] :: (lf s (k + 1)).takeWhile P) := hcons
   have hstop' : Hid (P s[k] = false → (lf s k).takeWhile P = []) := hstop
   clear hcons hstop
   obtain ⟨x, hx⟩ : ∃ x, s[k] = x := ⟨_, rfl⟩
   rw [hx] at hc hsn hcons' hstop'
   have hlt' : Hid (k < s.size) := hlt
   obtain ⟨y, hy⟩ : ∃ y, P x = y := ⟨_, rfl⟩
   rw [hy] at hcons' hstop'
   simp only [hy] at hc
   clear hy
   go_upto_region 2 with fail
   go_quiet ((exact Calls.quiet_of_same (hc _).out))
   rename_i nq
   have hR : Hid (Rd (wr.drewN nq) b s k ∧ Wb b w (wr.drewN nq)) := ⟨hQ.out.2.2.1, hQ.out.2.2.2.1.trans wb_drew⟩
   obtain ⟨W2, hW2⟩ : ∃ W, wr.drewN nq = W := ⟨_, rfl⟩
   rw [hW2] at hR ⊢
   clear c0 c1 z1 hW2 hc
   obtain ⟨c0, c1, z1⟩ := hR.out.1.cells
   cases y with
   | true =>
    have hfin : Hid (k + 1 ≤ s.size ∧ p ≤ k + 1 ∧ Rd (W2.setCell ⟨b, 1, none⟩ (.int .i64 ((k + 1 : Nat) : Int))) b s (k + 1) ∧ Wb b w (W2.setCell ⟨b, 1, none⟩ (.int .i64 ((k + 1 : Nat) : Int))) ∧ (lf s p).takeWhile P = (s.extract p (k + 1)).data.toList ++ (lf s (k + 1)).takeWhile P) :=
     ⟨hlt'.out, by omega, hR.out.1.set (k + 1), hR.out.2.set 1 _, by rw [hQ.out.2.2.2.2, hsn.out, hcons'.out rfl]; simp⟩
    have hms : Hid (s.size - plc b (W2.setCell ⟨b, 1, none⟩ (.int .i64 ((k + 1 : Nat) : Int))) < s.size - plc b wr) := by
     have := plc_eq hfin.out.2.2.1
     have := plc_eq hQ.out.2.2.1
     have := hlt'.out
     unfold Hid
     omega
    clear hQ hR hsn hcons' hstop'
    go_wp2_with fail
    go_roundw
    case rel => exact ⟨k + 1, hfin⟩
    case measure => exact hms.out
   | false =>
    have he : Hid ((lf s p).takeWhile P = (s.extract p k).data.toList) := by unfold Hid; rw [hQ.out.2.2.2.2, hstop'.out rfl, List.append_nil]
    have hex : S ((lf s p).takeWhile P) = s.extract p k := by rw [he.out]; rfl
    have hfin : Hid (RwQ P s p b w (.returned (.string (s.extract p k))) W2) := by
     have hlen : ((lf s p).takeWhile P).length = k - p := by rw [he.out, ext_lf, List.length_take, lf_len]; have := hlt'.out; omega
     refine ⟨by rw [hex], ?_, ?_, hR.out.2⟩
     ·rw [hlen, show p + (k - p) = k from by omega]; exact hR.out.1
     ·rw [hlen]; have := hlt'.out; omega
    clear he hex hQ hsn hcons' hstop'
    have p0' : (0 : Int) ≤ (p : Int) := Int.natCast_nonneg _
    have hexs : ¬ (k : Int) < (p : Int) := by omega
    go_wp2_with fail
    go_quiet (fail)
    rename_i nq2
    clear c0 c1 z1 hR
    go_wp2_with fail
    go_ret
    exact hfin.out.drew _
  ·have hke : k = s.size := by omega
   have hkn : ¬ (k : Int) < (s.size : Int) := by omega
   have he : (lf s p).takeWhile P = (s.extract p k).data.toList := by rw [hQ.out.2.2.2.2, tw_end P (by omega), List.append_nil]
   have hex : S ((lf s p).takeWhile P) = s.extract p k := by rw [he]; rfl
   have hR : Hid (Rd wr b s k ∧ Wb b w wr) := ⟨hQ.out.2.2.1, hQ.out.2.2.2.1⟩
   have hfin : Hid (RwQ P s p b w (.returned (.string (s.extract p k))) wr) := by
    have hlen : ((lf s p).takeWhile P).length = k - p := by rw [he, ext_lf, List.length_take, lf_len]; omega
    refine ⟨by rw [hex], ?_, ?_, hR.out.2⟩
    ·rw [hlen, show p + (k - p) = k from by omega]; exact hR.out.1
    ·rw [hlen]; omega
   have hkd : decide ((k : Int) < (s.size : Int)) = false := by simp; omega
   clear he hex hQ hke hlt
   go_upto_region 2 with fail
   go_quiet (fail)
   rename_i nq
   have hfd : Hid (RwQ P s p b w (.returned (.string (s.extract p k))) (wr.drewN nq)) := hfin.out.drew nq
   obtain ⟨W2, hW2⟩ : ∃ W, wr.drewN nq = W := ⟨_, rfl⟩
   have hc2 : W2.cell? ⟨b, 0, none⟩ = some (.string s) ∧ W2.cell? ⟨b, 1, none⟩ = some (.int .i64 (k : Int)) := by rw [← hW2]; exact ⟨c0, c1⟩
   obtain ⟨d0, d1⟩ := hc2
   rw [hW2] at hfd ⊢
   clear hW2 c0 c1 z1 hR
   go_wp2_with fail
   go_quiet (fail)
   rename_i nq2
   clear d0 d1
   go_wp2_with fail
   go_ret
   exact hfd.out.drew _
def SkQ (s : ByteArray) (p b : Nat) (w : World) (w' : World) : Prop := ∃ p', lf s p' = sp (lf s p) ∧ p ≤ p' ∧ p' ≤ s.size ∧ Rd w' b s p' ∧ Wb b w w'
theorem tw_sp (s : ByteArray) (p : Nat) : lf s (p + ((lf s p).takeWhile (· == 32)).length) = sp (lf s p) := by
 unfold sp
 rw [← lf_drop]
 generalize lf s p = l
 induction l with
 | nil => rfl
 | cons c l ih =>
  rw [List.takeWhile_cons, List.dropWhile_cons]
  split
  ·simpa using ih
  ·rfl
set_option maxHeartbeats 1000000 in
theorem space_any (c : UInt8) (w : World) : Calls Tryz.prog 118 #[.int .u8 (c.toNat : Int)] w fun e w' => e = .returned (.bool (c == 32)) ∧ w' = w := by
 have h : (c == 32) = ((c.toNat : Int) == 32) := by
  rw [Bool.eq_iff_iff, beq_iff_eq, beq_iff_eq]
  constructor
  ·rintro rfl; rfl
  ·intro h; exact UInt8.toNat_inj.1 (by have : (32 : UInt8).toNat = 32 := rfl; omega)
 rw [h]
 clear h
 go_enter Tryz.func118, Tryz.ntmps118
 go_wp2_with fail
 go_ret
 exact ⟨rfl, rfl⟩
set_option maxHeartbeats 1000000 in
theorem skip_any (s : ByteArray) (p b : Nat) (w : World) (h : Rd w b s p) (hp : p ≤ s.size) (hs : s.size ≤ 4096) :
  Calls Tryz.prog 87 #[.pointer (some ⟨b, 0, none⟩)] w fun e w' => e = .returned (.tuple #[]) ∧ SkQ s p b w w' := by
 have hR : Hid (Calls Tryz.prog 117 #[.pointer (some ⟨b, 0, none⟩), .func (.func 118) #[] #[]] w fun e w' => RwQ (· == 32) s p b w e w') := row_any (· == 32) _ (enters_of Tryz.func118 (by kernel_rfl) rfl) space_any s p b w h hp hs
 clear h
 go_enter Tryz.func87, Tryz.ntmps87
 go_wp2_with fail
 refine hR.out.mono ?_
 rintro e W1 ⟨rfl, h1, h2, h3⟩
 have hfin : Hid (SkQ s p b w W1) := ⟨_, tw_sp s p, Nat.le_add_right _ _, h2, h1, h3⟩
 clear h1 h2 h3 hR
 generalize S ((lf s p).takeWhile (· == 32)) = X at *
 go_wp2_with fail
 go_end0
 exact ⟨rfl, hfin.out⟩
set_option maxHeartbeats 1000000 in
theorem rest_any (s : ByteArray) (p b : Nat) (w : World) (h : Rd w b s p) (hp : p ≤ s.size) (hs : s.size ≤ 4096) :
  Calls Tryz.prog 150 #[.pointer (some ⟨b, 0, none⟩)] w fun e w' => e = .returned (.string (S (lf s p))) ∧ ∃ n, w' = w.drewN n := by
 obtain ⟨c0, c1, z1⟩ := h.cells
 have e : S (lf s p) = s.extract p s.size := by
  have := ext_lf s p s.size
  rw [List.take_of_length_le (by rw [lf_len]; exact Nat.le_refl _)] at this
  rw [← this]
  rfl
 rw [e]
 have p0 : (0 : Int) ≤ (p : Int) := Int.natCast_nonneg _
 have pb : (p : Int) ≤ (s.size : Int) := by omega
 have sb : (s.size : Int) ≤ 4096 := by omega
 clear h e
 go_enter Tryz.func150, Tryz.ntmps150
 go_wp2_with fail
 go_quiet (fail)
 go_wp2_with fail
 go_ret
 exact ⟨rfl, _, rfl⟩
end Pa
end Go.Proofs.YtkknenmpdimdbaaGreatDoor
