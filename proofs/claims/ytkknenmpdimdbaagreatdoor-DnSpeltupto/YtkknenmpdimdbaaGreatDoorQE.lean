import Derived.Test.YtkknenmpdimdbaaGreatDoorQD
import Derived.Test.YtkknenmpdimdbaaGreatDoorQB
import Derived.Deep.RegionHeld3
import Derived.BigQuiet
namespace Go.Proofs.YtkknenmpdimdbaaGreatDoor
namespace Pa
open Go.RowKit
open TextMath (fold lo normal check wo)
open Ke (tyOk tyC utf PR)
set_option linter.unusedVariables false
set_option linter.unusedSimpArgs false

/-- A reader: its block, its text, how far it has read. -/
def Rd (W : World) (b : Nat) (s : ByteArray) (p : Nat) : Prop := W.heap[b]? = some (.cells #[.string s, .int .i64 (p : Int)] 72 (0, 0))
/-- Of what was, only the reader's block may have turned. -/
def Wb (b : Nat) (w w' : World) : Prop := Below b w w' ∧ ∀ k, k < w.heap.size → k ≠ b → w'.heap[k]? = w.heap[k]?
variable {w w' w1 w2 W W' : World} {b p q : Nat} {s : ByteArray}
theorem Wb.refl (b : Nat) (w : World) : Wb b w w := ⟨Below.refl _ _, fun _ _ _ => rfl⟩
theorem Wb.size (h : Wb b w w') : w.heap.size ≤ w'.heap.size := h.1.size
theorem Wb.trans (h1 : Wb b w w1) (h2 : Wb b w1 w2) : Wb b w w2 := ⟨h1.1.trans h2.1, fun k hk hne => by rw [h2.2 k (Nat.lt_of_lt_of_le hk h1.size) hne, h1.2 k hk hne]⟩
theorem Wb.of_below (hb : Below w.heap.size w w') (h : b ≤ w.heap.size) : Wb b w w' := ⟨hb.mono h, fun k hk _ => hb.block k hk⟩
theorem Wb.set (h : Wb b w w') (i : Nat) (v : Value) : Wb b w (w'.setCell ⟨b, i, none⟩ v) := ⟨h.1.setCell (p := ⟨b, i, none⟩) (Nat.le_refl _) v, fun k hk hne => by rw [Go.heap_setCell_other _ _ _ _ (show k ≠ b from hne), h.2 k hk hne]⟩
theorem Wb.cell (h : Wb b w w') {k o : Nat} {v : Value} (hc : w.cell? ⟨k, o, none⟩ = some v) (hne : k ≠ b) : w'.cell? ⟨k, o, none⟩ = some v := by
  have hk := World.block_lt_of_cell? _ _ hc
  rw [← hc]
  unfold World.cell?
  rw [h.2 k hk hne]
/-- A block laid behind the reader: all below the reader's is as it was. -/
theorem Wb.low (h : Wb b w w') {n : Nat} (hn : n ≤ b) : Below n w w' := h.1.mono hn
theorem Rd.lt (h : Rd W b s p) : b < W.heap.size := (Array.getElem?_eq_some_iff.1 h).1
theorem Rd.cells (h : Rd W b s p) : W.cell? ⟨b, 0, none⟩ = some (.string s) ∧ W.cell? ⟨b, 1, none⟩ = some (.int .i64 (p : Int)) ∧ W.frozen? ⟨b, 1, none⟩ = false := by
  have h := h
  unfold Rd at h
  exact ⟨by simp [World.cell?, h], by simp [World.cell?, h], by simp [World.frozen?, h]⟩
theorem Rd.set (h : Rd W b s p) (q : Nat) : Rd (W.setCell ⟨b, 1, none⟩ (.int .i64 (q : Int))) b s q := by
  unfold Rd at *
  rw [Go.heap_setCell_same _ _ _ _ _ _ h]
  simp
theorem Rd.below (h : Rd W b s p) (hb : Below W.heap.size W W') : Rd W' b s p := by
  unfold Rd at *
  rw [hb.block b (Array.getElem?_eq_some_iff.1 h).1]
  exact h
/-- What is left of the text. -/
abbrev lf (s : ByteArray) (p : Nat) : List UInt8 := s.data.toList.drop p
theorem lf_cons (h : p < s.size) : lf s p = s[p] :: lf s (p + 1) := by
  unfold lf
  rw [List.drop_eq_getElem_cons (by rw [size_l]; exact h)]
  rfl
theorem lf_nil (h : s.size ≤ p) : lf s p = [] := List.drop_of_length_le (by rw [size_l]; exact h)
theorem lf_len : (lf s p).length = s.size - p := by unfold lf; rw [List.length_drop, size_l]
theorem lf_drop (n : Nat) : (lf s p).drop n = lf s (p + n) := by unfold lf; rw [List.drop_drop]
end Pa
end Go.Proofs.YtkknenmpdimdbaaGreatDoor

namespace Go.Proofs.YtkknenmpdimdbaaGreatDoor
namespace Pa
open Go.RowKit
open TextMath (fold lo normal check wo)
open Ke (tyOk tyC utf PR)
set_option linter.unusedVariables false
set_option linter.unusedSimpArgs false
set_option maxRecDepth 100000

/-- What take answers. -/
def TkQ (c : UInt8) (s : ByteArray) (p b : Nat) (w : World) (e : Ending) (w' : World) : Prop :=
  ((lf s p).head? = some c ∧ p < s.size ∧ e = .returned (.bool true) ∧ Rd w' b s (p + 1) ∧ Wb b w w') ∨ ((lf s p).head? ≠ some c ∧ e = .returned (.bool false) ∧ Rd w' b s p ∧ Wb b w w')
theorem lf_head {s : ByteArray} {p : Nat} (h : p < s.size) : (lf s p).head? = some s[p] := by rw [lf_cons h]; rfl
theorem lf_none {s : ByteArray} {p : Nat} (h : s.size ≤ p) : (lf s p).head? = none := by rw [lf_nil h]; rfl
theorem wb_drew {w : World} {b n : Nat} : Wb b w (w.drewN n) := ⟨⟨rfl, rfl, rfl, Nat.le_refl _, fun _ _ => rfl⟩, fun _ _ _ => rfl⟩
set_option maxHeartbeats 1000000 in
theorem take_any (c : UInt8) (s : ByteArray) (p b : Nat) (w : World) (h : Rd w b s p) (hp : p ≤ s.size) (hs : s.size ≤ 4096) :
    Calls Tryz.prog 58 #[.pointer (some ⟨b, 0, none⟩), .int .u8 (c.toNat : Int)] w fun e w' => TkQ c s p b w e w' := by
  obtain ⟨c0, c1, z1⟩ := h.cells
  have h' : Hid (Rd w b s p) := h
  have p0 : (0 : Int) ≤ (p : Int) := Int.natCast_nonneg _
  have pb : (p : Int) ≤ 4096 := by omega
  clear h
  by_cases hlt : p < s.size
  · have k1 : (p : Int) < (s.size : Int) := Int.ofNat_lt.2 hlt
    have g1 : ((p : Int) == (s.size : Int)) = false := by rw [beq_eq_false_iff_ne]; omega
    have hh : Hid ((lf s p).head? = some s[p]) := lf_head hlt
    obtain ⟨x, hx⟩ : ∃ x, s[p] = x := ⟨_, rfl⟩
    rw [hx] at hh
    by_cases hc : x = c
    · subst hc
      have g2 : ((x.toNat : Int) != (x.toNat : Int)) = false := by simp
      have hlt' : Hid (p < s.size) := hlt
      have hd1 : (w.cell? ⟨b, 1, none⟩ = some (.int .i64 (p : Int)) ∧ w.frozen? ⟨b, 1, none⟩ = false) := ⟨c1, z1⟩
      go_enter Tryz.func58, Tryz.ntmps58
      go_wp2_with fail
      go_quiet (fail)
      rename_i nq
      have hR : Hid (Rd (w.drewN nq) b s p ∧ Wb b w (w.drewN nq)) := ⟨h'.out, wb_drew⟩
      obtain ⟨W2, hW2⟩ : ∃ W, w.drewN nq = W := ⟨_, rfl⟩
      rw [hW2] at hR ⊢
      obtain ⟨d0, d1, d2⟩ := hR.out.1.cells
      clear hW2 c0 c1 z1 hd1
      go_wp2_with fail
      go_ret
      exact Or.inl ⟨hh.out, hlt'.out, rfl, hR.out.1.set (p + 1), hR.out.2.set 1 _⟩
    · have g2 : ((x.toNat : Int) != (c.toNat : Int)) = true := by
        have : x.toNat ≠ c.toNat := fun e => hc (UInt8.toNat_inj.1 e)
        simp
        omega
      have hc' : Hid (x ≠ c) := hc
      clear hc
      go_enter Tryz.func58, Tryz.ntmps58
      go_wp2_with fail
      go_quiet (fail)
      rename_i nq
      have hR : Hid (Rd (w.drewN nq) b s p ∧ Wb b w (w.drewN nq)) := ⟨h'.out, wb_drew⟩
      obtain ⟨W2, hW2⟩ : ∃ W, w.drewN nq = W := ⟨_, rfl⟩
      rw [hW2] at hR ⊢
      clear hW2 c0 c1 z1
      go_wp2_with fail
      go_ret
      exact Or.inr ⟨(by rw [hh.out]; intro e; injection e with e; exact hc'.out e), rfl, hR.out.1, hR.out.2⟩
  · have hpe : p = s.size := by omega
    have g1 : ((p : Int) == (s.size : Int)) = true := by rw [hpe]; simp
    have hh : Hid ((lf s p).head? = none) := lf_none (by omega)
    have hpe' : Hid (p = s.size) := hpe
    clear hpe hlt
    go_enter Tryz.func58, Tryz.ntmps58
    go_wp2_with fail
    go_quiet (fail)
    rename_i nq
    have hR : Hid (Rd (w.drewN nq) b s p ∧ Wb b w (w.drewN nq)) := ⟨h'.out, wb_drew⟩
    obtain ⟨W2, hW2⟩ : ∃ W, w.drewN nq = W := ⟨_, rfl⟩
    rw [hW2] at hR ⊢
    clear hW2 c0 c1 z1
    go_wp2_with fail
    go_ret
    exact Or.inr ⟨(by rw [hh.out]; intro e; cases e), rfl, hR.out.1, hR.out.2⟩
end Pa
end Go.Proofs.YtkknenmpdimdbaaGreatDoor

namespace Go.Proofs.YtkknenmpdimdbaaGreatDoor
namespace Pa
open Go.RowKit
open TextMath (fold lo normal check wo)
set_option linter.unusedVariables false
set_option linter.unusedSimpArgs false
set_option maxRecDepth 100000

def dig (c : UInt8) : Bool := decide (48 ≤ c.toNat) && decide (c.toNat ≤ 57)
theorem hd_eq (c : UInt8) : hd c = (dig c || (decide (97 ≤ c.toNat) && decide (c.toNat ≤ 102)) || (decide (65 ≤ c.toNat) && decide (c.toNat ≤ 70))) := by
  unfold hd wo dig
  by_cases h1 : 48 ≤ c.toNat ∧ c.toNat ≤ 57
  · simp [h1]
  · by_cases h2 : 97 ≤ c.toNat ∧ c.toNat ≤ 102
    · simp [h1, h2]
    · by_cases h3 : 65 ≤ c.toNat ∧ c.toNat ≤ 70
      · simp [h1, h2, h3]
      · rw [if_neg h1, if_neg h2, if_neg h3]
        simp
        omega
theorem dig_eq (c : UInt8) : dig c = decide (48 ≤ c.toNat ∧ c.toNat ≤ 57) := by unfold dig; simp
theorem tb_eq (c : UInt8) : tb c = decide ((97 ≤ c.toNat ∧ c.toNat ≤ 122) ∨ (65 ≤ c.toNat ∧ c.toNat ≤ 90) ∨ (48 ≤ c.toNat ∧ c.toNat ≤ 57) ∨ c.toNat = 45 ∨ c.toNat = 46) := by
  unfold tb
  rw [Bool.eq_iff_iff]
  simp only [Bool.or_eq_true, decide_eq_true_eq]
  omega
set_option maxHeartbeats 1000000 in
theorem dg1 (c : UInt8) (w : World) (a48 : (48 : Int) ≤ (c.toNat : Int)) (b57 : (c.toNat : Int) ≤ 57) : Calls Tryz.prog 148 #[.int .u8 (c.toNat : Int)] w fun e w' => e = .returned (.bool true) ∧ w' = w := by
  go_enter Tryz.func148, Tryz.ntmps148
  go_wp2_with fail
  go_ret
  exact ⟨rfl, rfl⟩
set_option maxHeartbeats 1000000 in
theorem dg2 (c : UInt8) (w : World) (a48 : (48 : Int) ≤ (c.toNat : Int)) (b57 : ¬ (c.toNat : Int) ≤ 57) : Calls Tryz.prog 148 #[.int .u8 (c.toNat : Int)] w fun e w' => e = .returned (.bool false) ∧ w' = w := by
  go_enter Tryz.func148, Tryz.ntmps148
  go_wp2_with fail
  go_ret
  exact ⟨rfl, rfl⟩
set_option maxHeartbeats 1000000 in
theorem dg3 (c : UInt8) (w : World) (a48 : ¬ (48 : Int) ≤ (c.toNat : Int)) : Calls Tryz.prog 148 #[.int .u8 (c.toNat : Int)] w fun e w' => e = .returned (.bool false) ∧ w' = w := by
  go_enter Tryz.func148, Tryz.ntmps148
  go_wp2_with fail
  go_ret
  exact ⟨rfl, rfl⟩
theorem digit_any (c : UInt8) (w : World) : Calls Tryz.prog 148 #[.int .u8 (c.toNat : Int)] w fun e w' => e = .returned (.bool (dig c)) ∧ w' = w := by
  by_cases k0 : 48 ≤ c.toNat ∧ c.toNat ≤ 57
  · have hr : dig c = true := by rw [dig_eq]; simp <;> omega
    rw [hr]
    exact dg1 c w (by omega) (by omega)
  by_cases k1 : 48 ≤ c.toNat
  · have hr : dig c = false := by rw [dig_eq]; simp <;> omega
    rw [hr]
    exact dg2 c w (by omega) (by omega)
  have hr : dig c = false := by rw [dig_eq]; simp <;> omega
  rw [hr]
  exact dg3 c w (by omega)
set_option maxHeartbeats 1000000 in
theorem tb1 (c : UInt8) (w : World) (a97 : (97 : Int) ≤ (c.toNat : Int)) (b122 : (c.toNat : Int) ≤ 122) : Calls Tryz.prog 119 #[.int .u8 (c.toNat : Int)] w fun e w' => e = .returned (.bool true) ∧ w' = w := by
  go_enter Tryz.func119, Tryz.ntmps119
  go_wp2_with fail
  go_ret
  exact ⟨rfl, rfl⟩
set_option maxHeartbeats 1000000 in
theorem tb2 (c : UInt8) (w : World) (a97 : (97 : Int) ≤ (c.toNat : Int)) (b122 : ¬ (c.toNat : Int) ≤ 122) (a65 : (65 : Int) ≤ (c.toNat : Int)) (b90 : ¬ (c.toNat : Int) ≤ 90) (dig : dig c = false) (e45 : ((c.toNat : Int) == 45) = false) (e46 : ((c.toNat : Int) == 46) = false) : Calls Tryz.prog 119 #[.int .u8 (c.toNat : Int)] w fun e w' => e = .returned (.bool false) ∧ w' = w := by
  go_enter Tryz.func119, Tryz.ntmps119
  go_wp2_with (go_at_call 148; refine (digit_any c _).mono ?_; rintro e w' ⟨rfl, rfl⟩; rw [dig])
  go_ret
  exact ⟨rfl, rfl⟩
set_option maxHeartbeats 1000000 in
theorem tb3 (c : UInt8) (w : World) (a97 : ¬ (97 : Int) ≤ (c.toNat : Int)) (a65 : (65 : Int) ≤ (c.toNat : Int)) (b90 : (c.toNat : Int) ≤ 90) : Calls Tryz.prog 119 #[.int .u8 (c.toNat : Int)] w fun e w' => e = .returned (.bool true) ∧ w' = w := by
  go_enter Tryz.func119, Tryz.ntmps119
  go_wp2_with fail
  go_ret
  exact ⟨rfl, rfl⟩
set_option maxHeartbeats 1000000 in
theorem tb4 (c : UInt8) (w : World) (a97 : ¬ (97 : Int) ≤ (c.toNat : Int)) (a65 : (65 : Int) ≤ (c.toNat : Int)) (b90 : ¬ (c.toNat : Int) ≤ 90) (dig : dig c = false) (e45 : ((c.toNat : Int) == 45) = false) (e46 : ((c.toNat : Int) == 46) = false) : Calls Tryz.prog 119 #[.int .u8 (c.toNat : Int)] w fun e w' => e = .returned (.bool false) ∧ w' = w := by
  go_enter Tryz.func119, Tryz.ntmps119
  go_wp2_with (go_at_call 148; refine (digit_any c _).mono ?_; rintro e w' ⟨rfl, rfl⟩; rw [dig])
  go_ret
  exact ⟨rfl, rfl⟩
set_option maxHeartbeats 1000000 in
theorem tb5 (c : UInt8) (w : World) (a97 : ¬ (97 : Int) ≤ (c.toNat : Int)) (a65 : ¬ (65 : Int) ≤ (c.toNat : Int)) (dig : dig c = true) : Calls Tryz.prog 119 #[.int .u8 (c.toNat : Int)] w fun e w' => e = .returned (.bool true) ∧ w' = w := by
  go_enter Tryz.func119, Tryz.ntmps119
  go_wp2_with (go_at_call 148; refine (digit_any c _).mono ?_; rintro e w' ⟨rfl, rfl⟩; rw [dig])
  go_ret
  exact ⟨rfl, rfl⟩
set_option maxHeartbeats 1000000 in
theorem tb6 (c : UInt8) (w : World) (a97 : ¬ (97 : Int) ≤ (c.toNat : Int)) (a65 : ¬ (65 : Int) ≤ (c.toNat : Int)) (dig : dig c = false) (e45 : ((c.toNat : Int) == 45) = true) : Calls Tryz.prog 119 #[.int .u8 (c.toNat : Int)] w fun e w' => e = .returned (.bool true) ∧ w' = w := by
  go_enter Tryz.func119, Tryz.ntmps119
  go_wp2_with (go_at_call 148; refine (digit_any c _).mono ?_; rintro e w' ⟨rfl, rfl⟩; rw [dig])
  go_ret
  exact ⟨rfl, rfl⟩
set_option maxHeartbeats 1000000 in
theorem tb7 (c : UInt8) (w : World) (a97 : ¬ (97 : Int) ≤ (c.toNat : Int)) (a65 : ¬ (65 : Int) ≤ (c.toNat : Int)) (dig : dig c = false) (e45 : ((c.toNat : Int) == 45) = false) (e46 : ((c.toNat : Int) == 46) = true) : Calls Tryz.prog 119 #[.int .u8 (c.toNat : Int)] w fun e w' => e = .returned (.bool true) ∧ w' = w := by
  go_enter Tryz.func119, Tryz.ntmps119
  go_wp2_with (go_at_call 148; refine (digit_any c _).mono ?_; rintro e w' ⟨rfl, rfl⟩; rw [dig])
  go_ret
  exact ⟨rfl, rfl⟩
set_option maxHeartbeats 1000000 in
theorem tb8 (c : UInt8) (w : World) (a97 : ¬ (97 : Int) ≤ (c.toNat : Int)) (a65 : ¬ (65 : Int) ≤ (c.toNat : Int)) (dig : dig c = false) (e45 : ((c.toNat : Int) == 45) = false) (e46 : ((c.toNat : Int) == 46) = false) : Calls Tryz.prog 119 #[.int .u8 (c.toNat : Int)] w fun e w' => e = .returned (.bool false) ∧ w' = w := by
  go_enter Tryz.func119, Tryz.ntmps119
  go_wp2_with (go_at_call 148; refine (digit_any c _).mono ?_; rintro e w' ⟨rfl, rfl⟩; rw [dig])
  go_ret
  exact ⟨rfl, rfl⟩
theorem typeByte_any (c : UInt8) (w : World) : Calls Tryz.prog 119 #[.int .u8 (c.toNat : Int)] w fun e w' => e = .returned (.bool (tb c)) ∧ w' = w := by
  by_cases k0 : 97 ≤ c.toNat ∧ c.toNat ≤ 122
  · have hr : tb c = true := by rw [tb_eq]; simp <;> omega
    rw [hr]
    exact tb1 c w (by omega) (by omega)
  by_cases k1 : 122 < c.toNat
  · have hr : tb c = false := by rw [tb_eq]; simp <;> omega
    rw [hr]
    exact tb2 c w (by omega) (by omega) (by omega) (by omega) (by rw [dig_eq]; simp <;> omega) (by simp <;> omega) (by simp <;> omega)
  by_cases k2 : 65 ≤ c.toNat ∧ c.toNat ≤ 90
  · have hr : tb c = true := by rw [tb_eq]; simp <;> omega
    rw [hr]
    exact tb3 c w (by omega) (by omega) (by omega)
  by_cases k3 : 90 < c.toNat
  · have hr : tb c = false := by rw [tb_eq]; simp <;> omega
    rw [hr]
    exact tb4 c w (by omega) (by omega) (by omega) (by rw [dig_eq]; simp <;> omega) (by simp <;> omega) (by simp <;> omega)
  by_cases k4 : 48 ≤ c.toNat ∧ c.toNat ≤ 57
  · have hr : tb c = true := by rw [tb_eq]; simp <;> omega
    rw [hr]
    exact tb5 c w (by omega) (by omega) (by rw [dig_eq]; simp <;> omega)
  by_cases k5 : c.toNat = 45
  · have hr : tb c = true := by rw [tb_eq]; simp <;> omega
    rw [hr]
    exact tb6 c w (by omega) (by omega) (by rw [dig_eq]; simp <;> omega) (by simp <;> omega)
  by_cases k6 : c.toNat = 46
  · have hr : tb c = true := by rw [tb_eq]; simp <;> omega
    rw [hr]
    exact tb7 c w (by omega) (by omega) (by rw [dig_eq]; simp <;> omega) (by simp <;> omega) (by simp <;> omega)
  have hr : tb c = false := by rw [tb_eq]; simp <;> omega
  rw [hr]
  exact tb8 c w (by omega) (by omega) (by rw [dig_eq]; simp <;> omega) (by simp <;> omega) (by simp <;> omega)
set_option maxHeartbeats 1000000 in
theorem hd1 (c : UInt8) (w : World) (dig : dig c = true) : Calls Tryz.prog 153 #[.int .u8 (c.toNat : Int)] w fun e w' => e = .returned (.bool true) ∧ w' = w := by
  go_enter Tryz.func153, Tryz.ntmps153
  go_wp2_with (go_at_call 148; refine (digit_any c _).mono ?_; rintro e w' ⟨rfl, rfl⟩; rw [dig])
  go_ret
  exact ⟨rfl, rfl⟩
set_option maxHeartbeats 1000000 in
theorem hd2 (c : UInt8) (w : World) (dig : dig c = false) (a97 : (97 : Int) ≤ (c.toNat : Int)) (b102 : (c.toNat : Int) ≤ 102) : Calls Tryz.prog 153 #[.int .u8 (c.toNat : Int)] w fun e w' => e = .returned (.bool true) ∧ w' = w := by
  go_enter Tryz.func153, Tryz.ntmps153
  go_wp2_with (go_at_call 148; refine (digit_any c _).mono ?_; rintro e w' ⟨rfl, rfl⟩; rw [dig])
  go_ret
  exact ⟨rfl, rfl⟩
set_option maxHeartbeats 1000000 in
theorem hd3 (c : UInt8) (w : World) (dig : dig c = false) (a97 : (97 : Int) ≤ (c.toNat : Int)) (b102 : ¬ (c.toNat : Int) ≤ 102) (a65 : (65 : Int) ≤ (c.toNat : Int)) (b70 : ¬ (c.toNat : Int) ≤ 70) : Calls Tryz.prog 153 #[.int .u8 (c.toNat : Int)] w fun e w' => e = .returned (.bool false) ∧ w' = w := by
  go_enter Tryz.func153, Tryz.ntmps153
  go_wp2_with (go_at_call 148; refine (digit_any c _).mono ?_; rintro e w' ⟨rfl, rfl⟩; rw [dig])
  go_ret
  refine ⟨?_, rfl⟩
  show Ending.returned (.bool _) = _
  simp [b102, b70]
set_option maxHeartbeats 1000000 in
theorem hd4 (c : UInt8) (w : World) (dig : dig c = false) (a97 : ¬ (97 : Int) ≤ (c.toNat : Int)) (a65 : (65 : Int) ≤ (c.toNat : Int)) (b70 : (c.toNat : Int) ≤ 70) : Calls Tryz.prog 153 #[.int .u8 (c.toNat : Int)] w fun e w' => e = .returned (.bool true) ∧ w' = w := by
  go_enter Tryz.func153, Tryz.ntmps153
  go_wp2_with (go_at_call 148; refine (digit_any c _).mono ?_; rintro e w' ⟨rfl, rfl⟩; rw [dig])
  go_ret
  exact ⟨rfl, rfl⟩
set_option maxHeartbeats 1000000 in
theorem hd5 (c : UInt8) (w : World) (dig : dig c = false) (a97 : ¬ (97 : Int) ≤ (c.toNat : Int)) (a65 : (65 : Int) ≤ (c.toNat : Int)) (b70 : ¬ (c.toNat : Int) ≤ 70) : Calls Tryz.prog 153 #[.int .u8 (c.toNat : Int)] w fun e w' => e = .returned (.bool false) ∧ w' = w := by
  go_enter Tryz.func153, Tryz.ntmps153
  go_wp2_with (go_at_call 148; refine (digit_any c _).mono ?_; rintro e w' ⟨rfl, rfl⟩; rw [dig])
  go_ret
  refine ⟨?_, rfl⟩
  show Ending.returned (.bool _) = _
  simp [b70]
set_option maxHeartbeats 1000000 in
theorem hd5b (c : UInt8) (w : World) (dig : dig c = false) (a97 : (97 : Int) ≤ (c.toNat : Int)) (b102 : ¬ (c.toNat : Int) ≤ 102) (a65 : (65 : Int) ≤ (c.toNat : Int)) (b70 : ¬ (c.toNat : Int) ≤ 70) : Calls Tryz.prog 153 #[.int .u8 (c.toNat : Int)] w fun e w' => e = .returned (.bool false) ∧ w' = w := by
  go_enter Tryz.func153, Tryz.ntmps153
  go_wp2_with (go_at_call 148; refine (digit_any c _).mono ?_; rintro e w' ⟨rfl, rfl⟩; rw [dig])
  go_ret
  refine ⟨?_, rfl⟩
  show Ending.returned (.bool _) = _
  simp [b102, b70]
set_option maxHeartbeats 1000000 in
theorem hd6 (c : UInt8) (w : World) (dig : dig c = false) (a97 : ¬ (97 : Int) ≤ (c.toNat : Int)) (a65 : ¬ (65 : Int) ≤ (c.toNat : Int)) : Calls Tryz.prog 153 #[.int .u8 (c.toNat : Int)] w fun e w' => e = .returned (.bool false) ∧ w' = w := by
  go_enter Tryz.func153, Tryz.ntmps153
  go_wp2_with (go_at_call 148; refine (digit_any c _).mono ?_; rintro e w' ⟨rfl, rfl⟩; rw [dig])
  go_ret
  exact ⟨rfl, rfl⟩
theorem hexDigit_any (c : UInt8) (w : World) : Calls Tryz.prog 153 #[.int .u8 (c.toNat : Int)] w fun e w' => e = .returned (.bool (hd c)) ∧ w' = w := by
  by_cases k0 : 48 ≤ c.toNat ∧ c.toNat ≤ 57
  · have hr : hd c = true := by rw [hd_eq, dig_eq]; simp <;> omega
    rw [hr]
    exact hd1 c w (by rw [dig_eq]; simp <;> omega)
  by_cases k1 : 97 ≤ c.toNat ∧ c.toNat ≤ 102
  · have hr : hd c = true := by rw [hd_eq, dig_eq]; simp <;> omega
    rw [hr]
    exact hd2 c w (by rw [dig_eq]; simp <;> omega) (by omega) (by omega)
  by_cases k2 : 102 < c.toNat
  · have hr : hd c = false := by rw [hd_eq, dig_eq]; simp <;> omega
    rw [hr]
    exact hd3 c w (by rw [dig_eq]; simp <;> omega) (by omega) (by omega) (by omega) (by omega)
  by_cases k3 : 65 ≤ c.toNat ∧ c.toNat ≤ 70
  · have hr : hd c = true := by rw [hd_eq, dig_eq]; simp <;> omega
    rw [hr]
    exact hd4 c w (by rw [dig_eq]; simp <;> omega) (by omega) (by omega) (by omega)
  by_cases k4 : 70 < c.toNat ∧ c.toNat < 97
  · have hr : hd c = false := by rw [hd_eq, dig_eq]; simp <;> omega
    rw [hr]
    exact hd5 c w (by rw [dig_eq]; simp <;> omega) (by omega) (by omega) (by omega)
  have hr : hd c = false := by rw [hd_eq, dig_eq]; simp <;> omega
  rw [hr]
  exact hd6 c w (by rw [dig_eq]; simp <;> omega) (by omega) (by omega)
end Pa
end Go.Proofs.YtkknenmpdimdbaaGreatDoor
