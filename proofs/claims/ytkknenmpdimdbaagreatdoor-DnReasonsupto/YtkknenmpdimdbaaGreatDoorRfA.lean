import Derived.Test.YtkknenmpdimdbaaGreatDoorFW15
import Derived.Test.YtkknenmpdimdbaaGreatDoorFW13
namespace Go.Proofs.YtkknenmpdimdbaaGreatDoor
open TextMath (fold lo)
set_option linter.unusedVariables false
def keysB (m : List UInt8) : Bool := m.all isK && !m.isEmpty
def numB (m : List UInt8) : Bool := m.all isD && (m == [48] || (!m.isEmpty && (m.getD 0 0).toNat != 48))
def sp (c : UInt8) : List UInt8 → List (List UInt8)
 | [] => [[]]
 | b :: l => if b = c then [] :: sp c l else ((b :: (sp c l).headD []) :: (sp c l).tail)
def typB (m : List UInt8) : Bool := if m = [] then false else if isL (m.getD 0 0) = true then keysB m else (sp 46 m).all numB && decide (1 < (sp 46 m).length)
theorem sp_ne (c : UInt8) : ∀ l, sp c l ≠ []
 | [] => by simp [sp]
 | b :: l => by unfold sp; split <;> simp
theorem sp_cons (c : UInt8) (l : List UInt8) : sp c l = (sp c l).headD [] :: (sp c l).tail := by
 cases h : sp c l with
 | nil => exact absurd h (sp_ne c l)
 | cons a t => rfl
theorem sp_at (c : UInt8) (l : List UInt8) : sp c (c :: l) = [] :: sp c l := by
 conv => lhs; unfold sp
 rw [if_pos rfl]
theorem sp_head (c : UInt8) (l : List UInt8) : (sp c l).headD [] ∈ sp c l := by
 cases h : sp c l with
 | nil => exact absurd h (sp_ne c l)
 | cons a t => exact List.mem_cons_self
theorem sp_on (c b : UInt8) (l : List UInt8) (h : b ≠ c) : sp c (b :: l) = (b :: (sp c l).headD []) :: (sp c l).tail := by
 conv => lhs; unfold sp
 rw [if_neg h]
theorem sp_mem (c : UInt8) : ∀ (l z : List UInt8), z ∈ sp c l → c ∉ z ∧ ∀ b ∈ z, b ∈ l
 | [], z, h => by
  simp [sp] at h
  subst h
  simp
 | b :: l, z, h => by
  by_cases hb : b = c
  ·subst hb
   rw [sp_at] at h
   rcases List.mem_cons.1 h with rfl | h
   ·simp
   ·have := sp_mem b l z h
    exact ⟨this.1, fun x hx => List.mem_cons_of_mem _ (this.2 x hx)⟩
  ·rw [sp_on c b l hb] at h
   rcases List.mem_cons.1 h with rfl | h
   ·have h0 : (sp c l).headD [] ∈ sp c l := sp_head c l
    have := sp_mem c l _ h0
    refine ⟨fun q => ?_, fun x hx => ?_⟩
    ·rcases List.mem_cons.1 q with q | q
     ·exact hb q.symm
     ·exact this.1 q
    ·rcases List.mem_cons.1 hx with rfl | hx
     ·exact List.mem_cons_self
     ·exact List.mem_cons_of_mem _ (this.2 x hx)
   ·have h0 : z ∈ sp c l := by rw [sp_cons]; exact List.mem_cons_of_mem _ h
    have := sp_mem c l z h0
    exact ⟨this.1, fun x hx => List.mem_cons_of_mem _ (this.2 x hx)⟩
theorem stay8 : ∀ (z : List UInt8), 59 ∉ z → drun 8 z = if z.all isK = true then 8 else 9
 | [], _ => rfl
 | b :: z, h => by
  have hb : ¬ b.toNat = 59 := fun q => h (by rw [show b = 59 from UInt8.toNat_inj.1 (by rw [q]; rfl)]; exact List.mem_cons_self)
  rw [drun_cons, List.all_cons]
  show drun (if isK b then 8 else if b.toNat = 59 then 7 else 9) z = _
  cases isK b with
  | true => rw [if_pos rfl, stay8 z (fun q => h (List.mem_cons_of_mem _ q)), Bool.true_and]
  | false => rw [if_neg (by decide), if_neg hb, drun9, if_neg (by simp)]
theorem stay1 : ∀ (z : List UInt8), 59 ∉ z → drun 1 z = if z.all isK = true then 1 else 9
 | [], _ => rfl
 | b :: z, h => by
  have hb : ¬ b.toNat = 59 := fun q => h (by rw [show b = 59 from UInt8.toNat_inj.1 (by rw [q]; rfl)]; exact List.mem_cons_self)
  rw [drun_cons, List.all_cons]
  show drun (if isK b then 1 else if b.toNat = 59 then 7 else 9) z = _
  cases isK b with
  | true => rw [if_pos rfl, stay1 z (fun q => h (List.mem_cons_of_mem _ q)), Bool.true_and]
  | false => rw [if_neg (by decide), if_neg hb, drun9, if_neg (by simp)]
def nst (q : Nat) : Bool := q == 2 || q == 3 || q == 5 || q == 6
theorem digs (q : Nat) (hq : q = 3 ∨ q = 6) : ∀ (z : List UInt8), 59 ∉ z → 46 ∉ z → drun q z = if z.all isD = true then q else 9
 | [], _, _ => rfl
 | b :: z, h, h2 => by
  have hb : ¬ b.toNat = 59 := fun q => h (by rw [show b = 59 from UInt8.toNat_inj.1 (by rw [q]; rfl)]; exact List.mem_cons_self)
  have hb2 : ¬ b.toNat = 46 := fun q => h2 (by rw [show b = 46 from UInt8.toNat_inj.1 (by rw [q]; rfl)]; exact List.mem_cons_self)
  have hd : dfa q b = if isD b = true then q else 9 := by
   rcases hq with rfl | rfl
   ·show (if isD b then 3 else if b.toNat = 46 then 4 else 9) = _
    rw [if_neg hb2]
   ·show (if isD b then 6 else if b.toNat = 46 then 4 else if b.toNat = 59 then 7 else 9) = _
    rw [if_neg hb2, if_neg hb]
  rw [drun_cons, List.all_cons, hd]
  cases isD b with
  | true => rw [if_pos rfl, digs q hq z (fun q => h (List.mem_cons_of_mem _ q)) (fun q => h2 (List.mem_cons_of_mem _ q)), Bool.true_and]
  | false => rw [if_neg (by decide), drun9, if_neg (by simp)]
theorem num_run (q : Nat) (z : List UInt8) (h : 59 ∉ z) (h2 : 46 ∉ z) (hq : q = 0 ∧ (∀ b k, z = b :: k → isL b = false) ∨ q = 4) :
  nst (drun q z) = numB z ∧ dacc (drun q z) = (decide (q = 4) && numB z) := by
 cases z with
 | nil => rcases hq with ⟨rfl, _⟩ | rfl <;> exact ⟨rfl, rfl⟩
 | cons b z =>
  have hz : 59 ∉ z := fun q => h (List.mem_cons_of_mem _ q)
  have hz2 : 46 ∉ z := fun q => h2 (List.mem_cons_of_mem _ q)
  have hd : dfa q b = if b.toNat = 48 then (if q = 0 then 2 else 5) else if isD b = true then (if q = 0 then 3 else 6) else 9 := by
   rcases hq with ⟨rfl, hl⟩ | rfl
   ·show (if isL b then 1 else if b.toNat = 48 then 2 else if isD b then 3 else 9) = _
    rw [hl b z rfl]; rfl
   ·rfl
  have hq04 : q = 0 ∨ q = 4 := by rcases hq with ⟨h, _⟩ | h <;> simp [h]
  rw [drun_cons, hd]
  by_cases h48 : b.toNat = 48
  ·rw [if_pos h48]
   obtain ⟨_, hD⟩ := dig48 b h48
   have hb48 : b = 48 := UInt8.toNat_inj.1 (by rw [h48]; rfl)
   cases z with
   | nil =>
    subst hb48
    rcases hq04 with rfl | rfl <;> exact ⟨by decide, by decide⟩
   | cons c z =>
    have hc : ¬ c.toNat = 59 := fun q => hz (by rw [show c = 59 from UInt8.toNat_inj.1 (by rw [q]; rfl)]; exact List.mem_cons_self)
    have hc2 : ¬ c.toNat = 46 := fun q => hz2 (by rw [show c = 46 from UInt8.toNat_inj.1 (by rw [q]; rfl)]; exact List.mem_cons_self)
    have h9 : dfa (if q = 0 then 2 else 5) c = 9 := by
     rcases hq04 with rfl | rfl
     ·show (if c.toNat = 46 then 4 else 9) = 9; rw [if_neg hc2]
     ·show (if c.toNat = 46 then 4 else if c.toNat = 59 then 7 else 9) = 9; rw [if_neg hc2, if_neg hc]
    have hn : numB (b :: c :: z) = false := by
     unfold numB
     subst hb48
     rw [Bool.and_eq_false_iff]
     right
     simp
    rw [drun_cons, h9, drun9, hn]
    exact ⟨rfl, by simp [dacc]⟩
  ·rw [if_neg h48]
   cases hD : isD b with
   | true =>
    rw [if_pos rfl, digs _ (by rcases hq04 with rfl | rfl <;> simp) z hz hz2]
    have hn : numB (b :: z) = z.all isD := by
     unfold numB
     rw [List.all_cons, hD, Bool.true_and]
     have : ((b :: z) == [48] || (!(b :: z).isEmpty && ((b :: z).getD 0 0).toNat != 48)) = true := by
      have : (((b :: z).getD 0 0).toNat != 48) = true := by simpa using h48
      rw [this]; simp
     rw [this, Bool.and_true]
    rw [hn]
    cases z.all isD <;> rcases hq04 with rfl | rfl <;> exact ⟨rfl, rfl⟩
   | false =>
    have hn : numB (b :: z) = false := by unfold numB; rw [List.all_cons, hD]; rfl
    rw [if_neg (by decide), drun9, hn]
    exact ⟨rfl, by simp [dacc]⟩
theorem dot_dfa (r : Nat) (hr : r = 0 ∨ (2 ≤ r ∧ r ≤ 6) ∨ r = 9) : dfa r 46 = if nst r = true then 4 else 9 := by
 have : ∀ q : Fin 10, (q.val = 0 ∨ (2 ≤ q.val ∧ q.val ≤ 6) ∨ q.val = 9) → dfa q.val 46 = if nst q.val = true then 4 else 9 := by decide
 exact this ⟨r, by omega⟩ hr
theorem live_dfa (r : Nat) (b : UInt8) (hr : 2 ≤ r ∧ r ≤ 6) (h59 : ¬ b.toNat = 59) : (2 ≤ dfa r b ∧ dfa r b ≤ 6) ∨ dfa r b = 9 := by
 have hrr : r = 2 ∨ r = 3 ∨ r = 4 ∨ r = 5 ∨ r = 6 := by omega
 rcases hrr with rfl | rfl | rfl | rfl | rfl
 ·rw [show dfa 2 b = if b.toNat = 46 then 4 else 9 from rfl]; split <;> omega
 ·rw [show dfa 3 b = if isD b then 3 else if b.toNat = 46 then 4 else 9 from rfl]
  split
  ·omega
  ·split <;> omega
 ·rw [show dfa 4 b = if b.toNat = 48 then 5 else if isD b then 6 else 9 from rfl]
  split
  ·omega
  ·split <;> omega
 ·rw [show dfa 5 b = if b.toNat = 46 then 4 else if b.toNat = 59 then 7 else 9 from rfl, if_neg h59]; split <;> omega
 ·rw [show dfa 6 b = if isD b then 6 else if b.toNat = 46 then 4 else if b.toNat = 59 then 7 else 9 from rfl, if_neg h59]
  split
  ·omega
  ·split <;> omega
theorem run_dots : ∀ (l : List UInt8) (r : Nat), 59 ∉ l → (r = 0 ∨ (2 ≤ r ∧ r ≤ 6) ∨ r = 9) → (r = 0 → ∀ b k, l = b :: k → isL b = false) →
  dacc (drun r l) = if (sp 46 l).tail = [] then dacc (drun r ((sp 46 l).headD [])) else (nst (drun r ((sp 46 l).headD [])) && (sp 46 l).tail.all numB)
 | [], r, _, _, _ => rfl
 | b :: l, r, h, hr, hl => by
  have h' : 59 ∉ l := fun q => h (List.mem_cons_of_mem _ q)
  by_cases hb : b = 46
  ·subst hb
   rw [sp_at, drun_cons, dot_dfa r hr]
   show _ = if sp 46 l = [] then _ else nst r && (sp 46 l).all numB
   rw [if_neg (sp_ne 46 l)]
   cases hn : nst r with
   | false => rw [if_neg (by decide), drun9]; rfl
   | true =>
    rw [if_pos rfl, run_dots l 4 h' (by omega) (fun q => by omega), Bool.true_and]
    have hm := sp_mem 46 l ((sp 46 l).headD []) (sp_head _ _)
    obtain ⟨n1, n2⟩ := num_run 4 ((sp 46 l).headD []) (fun q => h' (hm.2 _ q)) hm.1 (Or.inr rfl)
    conv => rhs; rw [sp_cons]
    rw [List.all_cons, n1, n2]
    by_cases ht : (sp 46 l).tail = []
    ·rw [if_pos ht, ht]; simp
    ·rw [if_neg ht]
  ·rw [sp_on 46 b l hb, drun_cons]
   have hb59 : ¬ b.toNat = 59 := fun q => h (by rw [show b = 59 from UInt8.toNat_inj.1 (by rw [q]; rfl)]; exact List.mem_cons_self)
   have hr' : dfa r b = 0 ∨ (2 ≤ dfa r b ∧ dfa r b ≤ 6) ∨ dfa r b = 9 := by
    rcases hr with rfl | hr | rfl
    ·have : dfa 0 b = if b.toNat = 48 then 2 else if isD b then 3 else 9 := by
      show (if isL b then 1 else _) = _
      rw [hl rfl b l rfl]; rfl
     rw [this]
     split
     ·omega
     ·split <;> omega
    ·exact Or.inr (live_dfa r b hr hb59)
    ·right; right; rfl
   have hnz : dfa r b ≠ 0 := by
    rcases hr with rfl | hr | rfl
    ·have : dfa 0 b = if b.toNat = 48 then 2 else if isD b then 3 else 9 := by
      show (if isL b then 1 else _) = _
      rw [hl rfl b l rfl]; rfl
     rw [this]
     split
     ·omega
     ·split <;> omega
    ·have := live_dfa r b hr hb59; omega
    ·show (9 : Nat) ≠ 0; omega
   rw [run_dots l _ h' hr' (fun q => absurd q hnz)]
   rfl
theorem typ_dfa (m : List UInt8) (h : 59 ∉ m) : typB m = dacc (drun 0 m) := by
 unfold typB
 cases m with
 | nil => rfl
 | cons b z =>
  rw [if_neg (by simp)]
  show (if isL b = true then _ else _) = _
  cases hb : isL b with
  | true =>
   rw [if_pos rfl, drun_cons]
   show _ = dacc (drun (if isL b then 1 else _) z)
   rw [hb, if_pos rfl, stay1 z (fun q => h (List.mem_cons_of_mem _ q))]
   unfold keysB
   rw [List.all_cons]
   have hk : isK b = true := by unfold isK; rw [hb]; rfl
   rw [hk, Bool.true_and]
   cases z.all isK <;> rfl
  | false =>
   rw [if_neg (by decide), run_dots (b :: z) 0 h (by omega) (fun _ c k e => by injection e with e _; rw [← e]; exact hb)]
   have hm := sp_mem 46 (b :: z) ((sp 46 (b :: z)).headD []) (sp_head _ _)
   obtain ⟨n1, n2⟩ := num_run 0 ((sp 46 (b :: z)).headD []) (fun q => h (hm.2 _ q)) hm.1 (Or.inl ⟨rfl, fun c k e => by
    by_cases hb46 : b = 46
    ·subst hb46; rw [sp_at] at e; simp at e
    ·rw [sp_on 46 b z hb46] at e
     simp at e
     rw [← e.1]; exact hb⟩)
   rw [n1, n2]
   conv => lhs; rw [sp_cons]
   rw [List.all_cons, List.length_cons]
   by_cases ht : (sp 46 (b :: z)).tail = []
   ·rw [if_pos ht, ht]; simp
   ·rw [if_neg ht]
    have : 0 < (sp 46 (b :: z)).tail.length := List.length_pos_iff.2 ht
    rw [decide_eq_true (by omega), Bool.and_true]
theorem lo_isL (b : UInt8) : isL (lo b) = (decide (97 ≤ (b.toNat : Int) ∧ (b.toNat : Int) ≤ 122) || decide (65 ≤ (b.toNat : Int) ∧ (b.toNat : Int) ≤ 90)) := by
 have : ∀ n : Fin 256, isL (lo (UInt8.ofNat n.val)) = (decide (97 ≤ (n.val : Int) ∧ (n.val : Int) ≤ 122) || decide (65 ≤ (n.val : Int) ∧ (n.val : Int) ≤ 90)) := by decide +kernel
 have h := this ⟨b.toNat, b.toNat_lt⟩
 rw [UInt8.ofNat_toNat] at h
 exact h
theorem lo_isD (b : UInt8) : isD (lo b) = isD b := by
 have : ∀ n : Fin 256, isD (lo (UInt8.ofNat n.val)) = isD (UInt8.ofNat n.val) := by decide +kernel
 have h := this ⟨b.toNat, b.toNat_lt⟩
 rw [UInt8.ofNat_toNat] at h
 exact h
theorem lo_eq (c b : UInt8) (hc : c = 59 ∨ c = 46 ∨ c = 48) : lo b = c ↔ b = c := by
 have : ∀ n : Fin 256, (lo (UInt8.ofNat n.val) = 59 ↔ UInt8.ofNat n.val = 59) ∧ (lo (UInt8.ofNat n.val) = 46 ↔ UInt8.ofNat n.val = 46) ∧ (lo (UInt8.ofNat n.val) = 48 ↔ UInt8.ofNat n.val = 48) := by decide +kernel
 have h := this ⟨b.toNat, b.toNat_lt⟩
 rw [UInt8.ofNat_toNat] at h
 rcases hc with rfl | rfl | rfl
 ·exact h.1
 ·exact h.2.1
 ·exact h.2.2
theorem fold_consR (b : UInt8) (l : List UInt8) : fold (b :: l) = lo b :: fold l := rfl
theorem fold_sp (c : UInt8) (hc : c = 59 ∨ c = 46) : ∀ l, sp c (fold l) = (sp c l).map fold
 | [] => rfl
 | b :: l => by
  have hl := lo_eq c b (by rcases hc with h | h <;> simp [h])
  rw [fold_consR]
  by_cases hb : b = c
  ·rw [hl.2 hb, sp_at, hb, sp_at, List.map_cons, fold_sp c hc l]
   rfl
  ·rw [sp_on c (lo b) _ (fun q => hb (hl.1 q)), sp_on c b l hb, List.map_cons, fold_sp c hc l]
   have := sp_cons c l
   cases h : sp c l with
   | nil => exact absurd h (sp_ne c l)
   | cons a t => rfl
end Go.Proofs.YtkknenmpdimdbaaGreatDoor
namespace Go.Proofs.YtkknenmpdimdbaaGreatDoor
open Go.RowKit
open TextMath (fold lo)
set_option linter.unusedVariables false
theorem lo_isK (b : UInt8) : isK (lo b) = (decide (97 ≤ (b.toNat : Int) ∧ (b.toNat : Int) ≤ 122) || decide (65 ≤ (b.toNat : Int) ∧ (b.toNat : Int) ≤ 90) || decide (48 ≤ (b.toNat : Int) ∧ (b.toNat : Int) ≤ 57) || decide ((b.toNat : Int) = 45)) := by
 have : ∀ n : Fin 256, isK (lo (UInt8.ofNat n.val)) = (decide (97 ≤ (n.val : Int) ∧ (n.val : Int) ≤ 122) || decide (65 ≤ (n.val : Int) ∧ (n.val : Int) ≤ 90) || decide (48 ≤ (n.val : Int) ∧ (n.val : Int) ≤ 57) || decide ((n.val : Int) = 45)) := by decide +kernel
 have h := this ⟨b.toNat, b.toNat_lt⟩
 rw [UInt8.ofNat_toNat] at h
 exact h
set_option maxHeartbeats 1000000 in
theorem keyR_any (b : UInt8) (w : World) : Calls Tryz.prog 138 #[.int .u8 (b.toNat : Int)] w fun e w' => e = .returned (.bool (isK (lo b))) ∧ w' = w := by
 rw [lo_isK]
 have hb : (b.toNat : Int) < 256 := by have := b.toNat_lt; omega
 generalize (b.toNat : Int) = c at *
 by_cases h1 : (97 : Int) ≤ c
 ·by_cases h2 : c ≤ 122
  ·rw [decide_eq_true (⟨h1, h2⟩ : 97 ≤ c ∧ c ≤ 122)]
   go_enter Tryz.func138, Tryz.ntmps138
   go_wp2_with fail
   go_ret
   exact ⟨rfl, rfl⟩
  ·have h3 : (65 : Int) ≤ c := by omega
   have h4 : ¬ c ≤ 90 := by omega
   have h5 : (48 : Int) ≤ c := by omega
   have h6 : ¬ c ≤ 57 := by omega
   have h7 : ¬ c = 45 := by omega
   have h8 : (c == 45) = false := by rw [beq_eq_false_iff_ne]; exact h7
   rw [decide_eq_false (fun q => h2 q.2 : ¬ (97 ≤ c ∧ c ≤ 122)), decide_eq_false (fun q => h4 q.2 : ¬ (65 ≤ c ∧ c ≤ 90)), decide_eq_false (fun q => h6 q.2 : ¬ (48 ≤ c ∧ c ≤ 57)), decide_eq_false h7]
   go_enter Tryz.func138, Tryz.ntmps138
   go_wp2_with fail
   go_ret
   exact ⟨rfl, rfl⟩
 ·rw [decide_eq_false (fun q => h1 q.1 : ¬ (97 ≤ c ∧ c ≤ 122))]
  by_cases h3 : (65 : Int) ≤ c
  ·by_cases h4 : c ≤ 90
   ·rw [decide_eq_true (⟨h3, h4⟩ : 65 ≤ c ∧ c ≤ 90)]
    go_enter Tryz.func138, Tryz.ntmps138
    go_wp2_with fail
    go_ret
    exact ⟨rfl, rfl⟩
   ·have h5 : (48 : Int) ≤ c := by omega
    have h6 : ¬ c ≤ 57 := by omega
    have h7 : ¬ c = 45 := by omega
    have h8 : (c == 45) = false := by rw [beq_eq_false_iff_ne]; exact h7
    rw [decide_eq_false (fun q => h4 q.2 : ¬ (65 ≤ c ∧ c ≤ 90)), decide_eq_false (fun q => h6 q.2 : ¬ (48 ≤ c ∧ c ≤ 57)), decide_eq_false h7]
    go_enter Tryz.func138, Tryz.ntmps138
    go_wp2_with fail
    go_ret
    exact ⟨rfl, rfl⟩
  ·rw [decide_eq_false (fun q => h3 q.1 : ¬ (65 ≤ c ∧ c ≤ 90))]
   by_cases h5 : (48 : Int) ≤ c
   ·by_cases h6 : c ≤ 57
    ·rw [decide_eq_true (⟨h5, h6⟩ : 48 ≤ c ∧ c ≤ 57)]
     go_enter Tryz.func138, Tryz.ntmps138
     go_wp2_with fail
     go_ret
     exact ⟨rfl, rfl⟩
    ·have h7 : ¬ c = 45 := by omega
     have h8 : (c == 45) = false := by rw [beq_eq_false_iff_ne]; exact h7
     rw [decide_eq_false (fun q => h6 q.2 : ¬ (48 ≤ c ∧ c ≤ 57)), decide_eq_false h7]
     go_enter Tryz.func138, Tryz.ntmps138
     go_wp2_with fail
     go_ret
     exact ⟨rfl, rfl⟩
   ·rw [decide_eq_false (fun q => h5 q.1 : ¬ (48 ≤ c ∧ c ≤ 57))]
    by_cases h7 : c = 45
    ·subst h7
     go_enter Tryz.func138, Tryz.ntmps138
     go_wp2_with fail
     go_ret
     exact ⟨rfl, rfl⟩
    ·have h8 : (c == 45) = false := by rw [beq_eq_false_iff_ne]; exact h7
     rw [decide_eq_false h7]
     go_enter Tryz.func138, Tryz.ntmps138
     go_wp2_with fail
     go_ret
     exact ⟨rfl, rfl⟩
theorem getB (s : ByteArray) (k : Nat) (h : k < s.size) : s[k] = s.data.toList[k]'(by rw [size_l]; exact h) := by
 simp [ByteArray.getElem_eq_getElem_data]
set_option maxHeartbeats 1000000 in
theorem keysR_any (s : ByteArray) (w : World) (hs : s.size ≤ 4194310) : Calls Tryz.prog 101 #[.string s] w fun e w' => e = .returned (.bool (keysB (fold s.data.toList))) ∧ w' = w := by
 have hK : ∀ b : UInt8, Hid (Calls Tryz.prog 138 #[.int .u8 (b.toNat : Int)] w fun e w' => e = .returned (.bool (isK (lo b))) ∧ w' = w) := fun b => keyR_any b w
 go_enter Tryz.func101, Tryz.ntmps101
 go_wp2_with fail
 go_loopw [3] (fun iv wr => ∃ k : Nat, k ≤ s.size ∧ iv = .int .i64 (k : Int) ∧ Hid ((fold (s.data.toList.take k)).all isK = true) ∧ w = wr) (fun iv _ => s.size - (intOf iv).toNat)
 case atStart => exact ⟨0, Nat.zero_le _, rfl, rfl, rfl⟩
 case round =>
  obtain ⟨k, hk, rfl, hall, rfl⟩ := hrel
  by_cases hlt : k < s.size
  ·have hl : k < s.data.toList.length := by rw [size_l]; exact hlt
   have hKk := hK s[k]
   have hst : Hid ((fold (s.data.toList.take (k + 1))).all isK = isK (lo s[k])) := by
    unfold Hid
    rw [List.take_succ_eq_append_getElem hl, getB s k hlt]
    have h0 := hall.out
    simp only [fold, List.map_append, List.map_cons, List.map_nil, List.all_append, List.all_cons, List.all_nil, Bool.and_true] at h0 ⊢
    rw [h0, Bool.true_and]
   have hfl : Hid (isK (lo s[k]) = false → keysB (fold s.data.toList) = false) := fun q => by
    unfold keysB
    have h1 : (fold s.data.toList).all isK = false := by
     rw [← List.take_append_drop (k + 1) s.data.toList]
     have h0 := hst.out
     rw [q] at h0
     simp only [fold, List.map_append, List.all_append] at h0 ⊢
     rw [h0, Bool.false_and]
    rw [h1]; rfl
   have k0 : (0 : Int) ≤ (k : Int) := Int.natCast_nonneg _
   have k1 : (k : Int) < (s.size : Int) := Int.ofNat_lt.2 hlt
   obtain ⟨x, hx⟩ : ∃ x, isK (lo s[k]) = x := ⟨_, rfl⟩
   rw [hx] at hKk hst hfl
   clear hx hK
   cases x with
   | true =>
    go_wp2_with fail
    refine hKk.out.mono ?_
    rintro e w1 ⟨rfl, hw1⟩
    subst hw1
    go_wp2_with fail
    go_roundw
    case rel => exact ⟨k + 1, hlt, by simp, hst, by trivial⟩
    case measure => simp [intOf]; omega
   | false =>
    have hfl' : Hid (keysB (fold s.data.toList) = false) := hfl.out rfl
    clear hfl
    go_wp2_with fail
    refine hKk.out.mono ?_
    rintro e w1 ⟨rfl, hw1⟩
    subst hw1
    go_wp2_with fail
    go_ret
    exact ⟨by rw [hfl'.out]; rfl, rfl⟩
  ·have hke : k = s.size := by omega
   subst hke
   have hall' : Hid ((fold s.data.toList).all isK = true) := by
    have h := hall.out
    rw [List.take_of_length_le (by rw [size_l]; omega)] at h
    exact h
   have k1 : ¬ (s.size : Int) < (s.size : Int) := by omega
   by_cases h0 : s.data.toList = []
   ·have e0 : s.toList.isEmpty = true := by rw [Lib.toList_data, h0]; rfl
    have hf : Hid (keysB (fold s.data.toList) = false) := by unfold Hid; rw [h0]; rfl
    clear h0
    go_wp2_with fail
    go_ret
    exact ⟨by rw [hf.out]; rfl, rfl⟩
   ·have e0 : s.toList.isEmpty = false := by rw [Lib.toList_data]; simpa using h0
    have hf : Hid (keysB (fold s.data.toList) = true) := by
     unfold Hid keysB
     rw [hall'.out, Bool.true_and]
     cases h : s.data.toList with
     | nil => exact absurd h h0
     | cons a t => rfl
    clear h0
    go_wp2_with fail
    go_ret
    exact ⟨by rw [hf.out]; rfl, rfl⟩
end Go.Proofs.YtkknenmpdimdbaaGreatDoor
namespace Go.Proofs.YtkknenmpdimdbaaGreatDoor
open Go.RowKit
open TextMath (fold lo)
set_option linter.unusedVariables false
def glue (x : List UInt8) (L : List (List UInt8)) : List (List UInt8) := (x ++ L.headD []) :: L.tail
theorem glue_nil (c : UInt8) (l : List UInt8) : glue [] (sp c l) = sp c l := by
 unfold glue
 rw [List.nil_append, ← sp_cons]
theorem glue_on (c b : UInt8) (x l : List UInt8) (h : b ≠ c) : glue x (sp c (b :: l)) = glue (x ++ [b]) (sp c l) := by
 unfold glue
 rw [sp_on c b l h]
 simp
theorem glue_at (c : UInt8) (x l : List UInt8) : glue x (sp c (c :: l)) = x :: sp c l := by
 unfold glue
 rw [sp_at]
 simp
theorem cur_step (l : List UInt8) (a k : Nat) (h : a ≤ k) (hk : k < l.length) : (l.drop a).take (k + 1 - a) = (l.drop a).take (k - a) ++ [l[k]] := by
 rw [show k + 1 - a = (k - a) + 1 by omega, List.take_succ_eq_append_getElem (by rw [List.length_drop]; omega)]
 congr 2
 rw [List.getElem_drop]
 congr 1
 omega
theorem ext_lR (s : ByteArray) (a b : Nat) : (s.extract a b).data.toList = (s.data.toList.drop a).take (b - a) := by
 rw [ByteArray.data_extract, Array.toList_extract, List.extract_eq_take_drop]
theorem beqU (b c : UInt8) : ((b.toNat : Int) == (c.toNat : Int)) = decide (b = c) := by
 by_cases h : b = c
 ·subst h; simp
 ·rw [decide_eq_false h, beq_eq_false_iff_ne]
  intro q
  exact h (UInt8.toNat_inj.1 (by omega))
set_option maxRecDepth 100000 in
set_option maxHeartbeats 2000000 in
theorem parts_any (s : ByteArray) (c : UInt8) (w : World) (hs : s.size ≤ 4194304) :
  Calls Tryz.prog 102 #[.string s, .int .u8 (c.toNat : Int)] w fun e w' => (∃ v, e = .returned v ∧ OwnS w' w.heap.size v (sp c s.data.toList)) ∧ Below w.heap.size w w' := by
 have hs' : Hid (s.size ≤ 4194304) := hs
 go_enter Tryz.func102, Tryz.ntmps102
 go_wp2_with fail
 go_loopw [5, 6, 7] (fun lv av iv wr => ∃ (k a : Nat) (ms : List (List UInt8)), k ≤ s.size ∧ a ≤ k ∧ av = .int .i64 (a : Int) ∧ iv = .int .i64 (k : Int) ∧ (∃ oa ol oc, lv = .slice oa ol oc ∧ OwnS wr w.heap.size (.slice oa ol oc) ms) ∧ Below w.heap.size w wr ∧ Hid (sp c s.data.toList = ms ++ glue ((s.data.toList.drop a).take (k - a)) (sp c (s.data.toList.drop k)) ∧ ms.length ≤ a)) (fun _ _ iv _ => s.size - (intOf iv).toNat)
 case atStart =>
  refine ⟨0, 0, [], Nat.zero_le _, Nat.le_refl _, rfl, rfl, ⟨none, 0, 0, rfl, ownS_nil _ _⟩, Below.refl _ _, ?_, by simp⟩
  show _ = [] ++ glue _ _
  rw [List.drop_zero, Nat.sub_zero, List.take_zero, List.nil_append, glue_nil]
 case round =>
  obtain ⟨k, a, ms, hk, hak, rfl, rfl, ⟨oa, ol, oc, rfl, hown0⟩, hB0, hsp⟩ := hrel
  have hown : Hid (OwnS wr w.heap.size (.slice oa ol oc) ms) := hown0
  have hB : Hid (Below w.heap.size w wr) := hB0
  have hsz : w.heap.size ≤ wr.heap.size := hB0.size
  clear hown0 hB0
  have a0 : (0 : Int) ≤ (a : Int) := Int.natCast_nonneg _
  have a1 : (a : Int) ≤ (k : Int) := Int.ofNat_le.2 hak
  by_cases hlt : k < s.size
  ·have hl : k < s.data.toList.length := by rw [size_l]; exact hlt
   have hdr := List.drop_eq_getElem_cons hl
   have hbq := beqU s[k] c
   have k0 : (0 : Int) ≤ (k : Int) := Int.natCast_nonneg _
   have k1 : (k : Int) < (s.size : Int) := Int.ofNat_lt.2 hlt
   have k2 : (k : Int) ≤ (s.size : Int) := by omega
   by_cases hc : s[k] = c
   ·rw [decide_eq_true hc] at hbq
    obtain ⟨M, hM⟩ : ∃ M, s.extract a k = M := ⟨_, rfl⟩
    have hMl : M.data.toList = (s.data.toList.drop a).take (k - a) := by rw [← hM, ext_lR]
    have hnx : Hid (sp c s.data.toList = (ms ++ [M.data.toList]) ++ glue ((s.data.toList.drop (k + 1)).take (k + 1 - (k + 1))) (sp c (s.data.toList.drop (k + 1))) ∧ (ms ++ [M.data.toList]).length ≤ k + 1) := by
     refine ⟨?_, ?_⟩
     ·rw [hsp.out.1, hdr, ← getB s k hlt, hc, glue_at, Nat.sub_self, List.take_zero, glue_nil, hMl]
      simp
     ·have := hsp.out.2
      rw [List.length_append]
      simp
      omega
    have hSM : Hid (S M.data.toList = M) := S_of M
    have hl3 : Hid (ms.length ≤ 4194304) := by have := hsp.out.2; have := hs'.out; unfold Hid; omega
    have hlt' : Hid (k < s.size) := hlt
    clear hsp hdr hMl hc
    go_wp2_with (at_builtin; refine push_text _ rfl _ _ rfl w.heap.size _ ms M.data.toList _ rfl rfl ?_ ?_ ?_ hl3.out ?_; (exact World.ownsRow.alloc hown.out _); (rw [hSM.out]; exact heap_alloc_new _ _); (simp; omega); intro g6 cap6 w6 hown6 hgr6 hlie6 hb6)
    refine ⟨⟨k + 1, k + 1, ms ++ [M.data.toList], hlt'.out, Nat.le_refl _, by simp, by simp, ⟨_, _, _, rfl, hown6⟩, (hB.out.alloc hsz _).trans hb6, hnx⟩, ?_⟩
    have := hlt'.out
    simp [intOf]
    omega
   ·rw [decide_eq_false hc] at hbq
    have hnx : Hid (sp c s.data.toList = ms ++ glue ((s.data.toList.drop a).take (k + 1 - a)) (sp c (s.data.toList.drop (k + 1))) ∧ ms.length ≤ a) := by
     refine ⟨?_, hsp.out.2⟩
     rw [hsp.out.1, hdr, glue_on c _ _ _ (by rw [← getB s k hlt]; exact hc), cur_step _ _ _ hak hl]
    have hlt' : Hid (k < s.size) := hlt
    clear hsp hdr hc
    go_wp2_with fail
    go_roundw
    case rel => exact ⟨k + 1, a, ms, hlt'.out, by omega, rfl, by simp, ⟨_, _, _, rfl, hown.out⟩, hB.out, hnx⟩
    case measure => have := hlt'.out; simp [intOf]; omega
  ·have hke : k = s.size := by omega
   subst hke
   obtain ⟨M, hM⟩ : ∃ M, s.extract a s.size = M := ⟨_, rfl⟩
   have hMl : M.data.toList = (s.data.toList.drop a).take (s.size - a) := by rw [← hM, ext_lR]
   have hfin : Hid (sp c s.data.toList = ms ++ [M.data.toList]) := by
    unfold Hid
    rw [hsp.out.1, show s.data.toList.drop s.size = [] from List.drop_of_length_le (by rw [size_l]; exact Nat.le_refl _), hMl]
    show _ = _
    simp [glue, sp]
   have hSM : Hid (S M.data.toList = M) := S_of M
   have hl3 : Hid (ms.length ≤ 4194304) := by have := hsp.out.2; have := hs'.out; unfold Hid; omega
   have k1 : ¬ (s.size : Int) < (s.size : Int) := by omega
   have k2 : (s.size : Int) ≤ (s.size : Int) := Int.le_refl _
   clear hsp hMl
   go_wp2_with (at_builtin; refine push_text _ rfl _ _ rfl w.heap.size _ ms M.data.toList _ rfl rfl ?_ ?_ ?_ hl3.out ?_; (exact World.ownsRow.alloc hown.out _); (rw [hSM.out]; exact heap_alloc_new _ _); (simp; omega); intro g6 cap6 w6 hown6 hgr6 hlie6 hb6)
   go_ret
   exact ⟨⟨_, rfl, by rw [hfin.out]; exact hown6⟩, (hB.out.alloc hsz _).trans hb6⟩
end Go.Proofs.YtkknenmpdimdbaaGreatDoor
namespace Go.Proofs.YtkknenmpdimdbaaGreatDoor
open Go.RowKit
open TextMath (fold lo)
set_option linter.unusedVariables false
theorem lo_dig (b : UInt8) (h : isD b = true) : lo b = b := by
 have : ∀ n : Fin 256, isD (UInt8.ofNat n.val) = true → lo (UInt8.ofNat n.val) = UInt8.ofNat n.val := by decide +kernel
 have h' := this ⟨b.toNat, b.toNat_lt⟩
 rw [UInt8.ofNat_toNat] at h'
 exact h' h
theorem num_fold (l : List UInt8) : numB (fold l) = numB l := by
 have ha : (fold l).all isD = l.all isD := by
  unfold fold
  rw [List.all_map]
  congr 1
  funext b
  exact lo_isD b
 cases hd : l.all isD with
 | true =>
  have : fold l = l := by
   unfold fold
   have h := List.all_eq_true.1 hd
   exact (List.map_congr_left (fun b hb => lo_dig b (h b hb))).trans (List.map_id l)
  rw [this]
 | false =>
  unfold numB
  rw [ha, hd]
  rfl
theorem isD_int (b : UInt8) : isD b = (!decide ((b.toNat : Int) < 48) && !decide (57 < (b.toNat : Int))) := by
 unfold isD
 by_cases h1 : (b.toNat : Int) < 48 <;> by_cases h2 : 57 < (b.toNat : Int) <;> simp [h1, h2] <;> omega
set_option maxHeartbeats 1000000 in
theorem numberR_any (s : ByteArray) (w : World) (hs : s.size ≤ 4194310) : Calls Tryz.prog 103 #[.string s] w fun e w' => e = .returned (.bool (numB s.data.toList)) ∧ w' = w := by
 go_enter Tryz.func103, Tryz.ntmps103
 go_wp2_with fail
 go_loopw [3] (fun iv wr => ∃ k : Nat, k ≤ s.size ∧ iv = .int .i64 (k : Int) ∧ Hid ((s.data.toList.take k).all isD = true) ∧ w = wr) (fun iv _ => s.size - (intOf iv).toNat)
 case atStart => exact ⟨0, Nat.zero_le _, rfl, rfl, rfl⟩
 case round =>
  obtain ⟨k, hk, rfl, hall, rfl⟩ := hrel
  by_cases hlt : k < s.size
  ·have hl : k < s.data.toList.length := by rw [size_l]; exact hlt
   have hst : Hid ((s.data.toList.take (k + 1)).all isD = isD s[k]) := by
    unfold Hid
    rw [List.take_succ_eq_append_getElem hl, getB s k hlt, List.all_append, hall.out, Bool.true_and, List.all_cons, List.all_nil, Bool.and_true]
   have hfl : isD s[k] = false → Hid (numB s.data.toList = false) := fun q => by
    unfold Hid numB
    have h1 : s.data.toList.all isD = false := by
     rw [← List.take_append_drop (k + 1) s.data.toList, List.all_append, hst.out, q, Bool.false_and]
    rw [h1]; rfl
   have k0 : (0 : Int) ≤ (k : Int) := Int.natCast_nonneg _
   have k1 : (k : Int) < (s.size : Int) := Int.ofNat_lt.2 hlt
   have hd := isD_int s[k]
   by_cases h1 : (s[k].toNat : Int) < 48
   ·have hf := hfl (by rw [hd, decide_eq_true h1]; rfl)
    clear hfl hst hd
    go_wp2_with fail
    go_ret
    exact ⟨by rw [hf.out]; rfl, rfl⟩
   ·by_cases h2 : (s[k].toNat : Int) > 57
    ·have hf := hfl (by rw [hd, decide_eq_true (show 57 < (s[k].toNat : Int) from h2), Bool.not_true, Bool.and_false])
     clear hfl hst hd
     go_wp2_with fail
     go_ret
     exact ⟨by rw [hf.out]; rfl, rfl⟩
    ·have hst' : Hid ((s.data.toList.take (k + 1)).all isD = true) := by
      unfold Hid
      rw [hst.out, hd, decide_eq_false h1, decide_eq_false (show ¬ 57 < (s[k].toNat : Int) from h2)]
      rfl
     have hlt' : Hid (k < s.size) := hlt
     clear hfl hst hd
     go_wp2_with fail
     go_roundw
     case rel => exact ⟨k + 1, hlt'.out, by simp, hst', by trivial⟩
     case measure => have := hlt'.out; simp [intOf]; omega
  ·have hke : k = s.size := by omega
   subst hke
   have hall' : Hid (s.data.toList.all isD = true) := by
    have h := hall.out
    rw [List.take_of_length_le (by rw [size_l]; omega)] at h
    exact h
   have k1 : ¬ (s.size : Int) < (s.size : Int) := by omega
   by_cases h0 : s.data.toList = []
   ·have e0 : s.toList.isEmpty = true := by rw [Lib.toList_data, h0]; rfl
    have e1 : (s.toList == [48]) = false := by rw [Lib.toList_data, h0]; rfl
    have hf : Hid (numB s.data.toList = false) := by unfold Hid; rw [h0]; rfl
    clear h0
    go_wp2_with fail
    go_ret
    exact ⟨by rw [hf.out]; rfl, rfl⟩
   ·have hz : 0 < s.size := by
     rw [← size_l]
     exact List.length_pos_iff.2 h0
    have e0 : s.toList.isEmpty = false := by rw [Lib.toList_data]; simpa using h0
    by_cases h48 : s.data.toList = [48]
    ·have e1 : (s.toList == [48]) = true := by rw [Lib.toList_data, h48]; rfl
     have hf : Hid (numB s.data.toList = true) := by unfold Hid; rw [h48]; rfl
     clear h0 h48
     go_wp2_with fail
     go_ret
     exact ⟨by rw [hf.out]; rfl, rfl⟩
    ·have e1 : (s.toList == [48]) = false := by rw [Lib.toList_data]; simpa using h48
     have hf : Hid (numB s.data.toList = ((s[0].toNat : Int) != 48)) := by
      unfold Hid numB
      rw [hall'.out, Bool.true_and, show (s.data.toList == [48]) = false by simpa using h48, Bool.false_or]
      have hg : s.data.toList.getD 0 0 = s[0] := by rw [getB s 0 hz, List.getD, List.getElem?_eq_getElem (by rw [size_l]; exact hz)]; rfl
      rw [hg, show s.data.toList.isEmpty = false by simpa using h0, Bool.not_false, Bool.true_and]
      by_cases q : s[0].toNat = 48
      ·rw [q]; rfl
      ·have q1 : (s[0].toNat != 48) = true := by simpa using q
       have q2 : ((s[0].toNat : Int) != 48) = true := by rw [bne_iff_ne]; omega
       rw [q1, q2]
     have z1 : (0 : Int) < (s.size : Int) := by omega
     clear h0 h48
     go_wp2_with fail
     go_ret
     exact ⟨by rw [hf.out]; rfl, rfl⟩
theorem sp_len (c : UInt8) : ∀ (l z : List UInt8), z ∈ sp c l → z.length ≤ l.length
 | [], z, h => by
  simp [sp] at h
  subst h
  simp
 | b :: l, z, h => by
  by_cases hb : b = c
  ·subst hb
   rw [sp_at] at h
   rcases List.mem_cons.1 h with rfl | h
   ·simp
   ·have := sp_len b l z h
    simp
    omega
  ·rw [sp_on c b l hb] at h
   rcases List.mem_cons.1 h with rfl | h
   ·have := sp_len c l _ (sp_head c l)
    rw [List.length_cons, List.length_cons]
    omega
   ·have := sp_len c l z (by rw [sp_cons]; exact List.mem_cons_of_mem _ h)
    rw [List.length_cons]
    omega
theorem sp_count (c : UInt8) : ∀ l : List UInt8, (sp c l).length ≤ l.length + 1
 | [] => by simp [sp]
 | b :: l => by
  have ih := sp_count c l
  by_cases hb : b = c
  ·subst hb
   rw [sp_at, List.length_cons, List.length_cons]
   omega
  ·rw [sp_on c b l hb, List.length_cons, List.length_cons]
   have := congrArg List.length (sp_cons c l)
   rw [List.length_cons] at this
   omega
theorem S_sizeR (x : List UInt8) : (S x).size = x.length := by rw [← size_l, S_l]
set_option maxRecDepth 100000 in
set_option maxHeartbeats 2000000 in
theorem isType_any (s : ByteArray) (w : World) (hs : s.size ≤ 4194304) :
  Calls Tryz.prog 74 #[.string s] w fun e w' => e = .returned (.bool (typB (fold s.data.toList))) ∧ Below w.heap.size w w' := by
 by_cases h0 : s.data.toList = []
 ·have e0 : s.toList.isEmpty = true := by rw [Lib.toList_data, h0]; rfl
  have hf : Hid (typB (fold s.data.toList) = false) := by unfold Hid; rw [h0]; rfl
  clear h0
  go_enter Tryz.func74, Tryz.ntmps74
  go_wp2_with fail
  go_ret
  exact ⟨by rw [hf.out]; rfl, Below.refl _ _⟩
 ·have hz : 0 < s.size := by rw [← size_l]; exact List.length_pos_iff.2 h0
  have e0 : s.toList.isEmpty = false := by rw [Lib.toList_data]; simpa using h0
  have z1 : (0 : Int) < (s.size : Int) := by omega
  have hfn : fold s.data.toList ≠ [] := fun q => h0 (List.map_eq_nil_iff.1 q)
  have hg : (fold s.data.toList).getD 0 0 = lo s[0] := by
   rw [getB s 0 hz]
   have hp : 0 < s.data.toList.length := by rw [size_l]; exact hz
   unfold fold
   rw [List.getD, List.getElem?_map, List.getElem?_eq_getElem hp]
   rfl
  have hL := lo_isL s[0]
  have hty : Hid (typB (fold s.data.toList) = if isL (lo s[0]) = true then keysB (fold s.data.toList) else (sp 46 (fold s.data.toList)).all numB && decide (1 < (sp 46 (fold s.data.toList)).length)) := by
   unfold Hid typB
   rw [if_neg hfn, hg]
  have hK : Hid (∀ W, Calls Tryz.prog 101 #[.string s] W fun e w' => e = .returned (.bool (keysB (fold s.data.toList))) ∧ w' = W) := fun W => keysR_any s W (by omega)
  clear h0 hfn hg
  by_cases hlet : isL (lo s[0]) = true
  ·have hty' : Hid (typB (fold s.data.toList) = keysB (fold s.data.toList)) := by unfold Hid; rw [hty.out, if_pos hlet]
   rw [hlet] at hL
   have hcase : ((97 : Int) ≤ s[0].toNat ∧ (s[0].toNat : Int) ≤ 122) ∨ (¬ (97 : Int) ≤ s[0].toNat ∧ (65 : Int) ≤ s[0].toNat ∧ (s[0].toNat : Int) ≤ 90) := by
    have h := hL.symm
    rw [Bool.or_eq_true, decide_eq_true_iff, decide_eq_true_iff] at h
    omega
   clear hty hL hlet
   rcases hcase with ⟨c1, c2⟩ | ⟨c1, c2, c3⟩
   ·go_enter Tryz.func74, Tryz.ntmps74
    go_wp2_with fail
    refine (hK.out w).mono ?_
    rintro e w1 ⟨rfl, hw1⟩
    subst hw1
    go_wp2_with fail
    go_ret
    exact ⟨by rw [hty'.out]; rfl, Below.refl _ _⟩
   ·go_enter Tryz.func74, Tryz.ntmps74
    go_wp2_with fail
    refine (hK.out w).mono ?_
    rintro e w1 ⟨rfl, hw1⟩
    subst hw1
    go_wp2_with fail
    go_ret
    exact ⟨by rw [hty'.out]; rfl, Below.refl _ _⟩
  ·have hty' : Hid (typB (fold s.data.toList) = ((sp 46 s.data.toList).all numB && decide (1 < (sp 46 s.data.toList).length))) := by
    unfold Hid
    rw [hty.out, if_neg hlet, fold_sp 46 (Or.inr rfl), List.length_map, List.all_map]
    congr 2
    funext z
    exact num_fold z
   have hP := parts_any s 46 w hs
   rw [show ((46 : UInt8).toNat : Int) = 46 from rfl] at hP
   have hlen : Hid ((sp 46 s.data.toList).length ≤ 4194305 ∧ ∀ z ∈ sp 46 s.data.toList, z.length ≤ 4194304) := by
    refine ⟨?_, fun z hz => ?_⟩
    ·have := sp_count 46 s.data.toList; rw [size_l] at this; omega
    ·have := sp_len 46 _ z hz; rw [size_l] at this; omega
   have hcase : ((97 : Int) ≤ s[0].toNat ∧ ¬ (s[0].toNat : Int) ≤ 122 ∧ (65 : Int) ≤ s[0].toNat ∧ ¬ (s[0].toNat : Int) ≤ 90) ∨ (¬ (97 : Int) ≤ s[0].toNat ∧ (65 : Int) ≤ s[0].toNat ∧ ¬ (s[0].toNat : Int) ≤ 90) ∨ (¬ (97 : Int) ≤ s[0].toNat ∧ ¬ (65 : Int) ≤ s[0].toNat) := by
    rw [hL] at hlet
    rw [Bool.or_eq_true, decide_eq_true_iff, decide_eq_true_iff] at hlet
    omega
   clear hty hL hlet hK
   generalize sp 46 s.data.toList = Z at *
   rcases hcase with ⟨c1, c2, c3, c4⟩ | ⟨c1, c2, c3⟩ | ⟨c1, c2⟩
   ·go_enter Tryz.func74, Tryz.ntmps74
    go_wp2_with fail
    refine hP.mono ?_
    rintro e W1 ⟨⟨v, rfl, hO⟩, hb1⟩
    obtain ⟨va, vc, rfl, hrow⟩ := ownS_trow hO
    have hrow' : Hid (TRow W1 va Z) := hrow
    have o1 : Hid (Below w.heap.size w W1) := hb1
    have hl4 : Z.length ≤ 4194305 := hlen.out.1
    clear hO hrow hb1 hP
    go_wp2_with fail
    go_loopw [4] (fun iv wr => ∃ k : Nat, k ≤ Z.length ∧ iv = .int .i64 (k : Int) ∧ Hid ((Z.take k).all numB = true) ∧ W1 = wr) (fun iv _ => Z.length - (intOf iv).toNat)
    case atStart => exact ⟨0, Nat.zero_le _, rfl, rfl, rfl⟩
    case round =>
     obtain ⟨k, hk, rfl, hall, rfl⟩ := hrel
     by_cases hlt : k < Z.length
     ·obtain ⟨g, rfl, hc⟩ := hrow'.out k hlt
      have hN := numberR_any (S Z[k]) W1 (by rw [S_sizeR]; have := hlen.out.2 _ (List.getElem_mem hlt); omega)
      rw [S_l] at hN
      have k0 : (0 : Int) ≤ (k : Int) := Int.natCast_nonneg _
      have k1 : (k : Int) < (Z.length : Int) := Int.ofNat_lt.2 hlt
      have hst : Hid ((Z.take (k + 1)).all numB = numB Z[k]) := by
       unfold Hid
       rw [List.take_succ_eq_append_getElem hlt, List.all_append, hall.out, Bool.true_and, List.all_cons, List.all_nil, Bool.and_true]
      obtain ⟨x, hx⟩ : ∃ x, numB Z[k] = x := ⟨_, rfl⟩
      rw [hx] at hN hst
      have hlt' : Hid (k < Z.length) := hlt
      clear hx
      cases x with
      | true =>
       go_wp2_with fail
       refine hN.mono ?_
       rintro e w1 ⟨rfl, hw1⟩
       subst hw1
       clear hN
       go_wp2_with fail
       go_roundw
       case rel => exact ⟨k + 1, hlt'.out, by simp, hst, by trivial⟩
       case measure => have := hlt'.out; simp [intOf]; omega
      | false =>
       have hf : Hid (typB (fold s.data.toList) = false) := by
        unfold Hid
        rw [hty'.out, ← List.take_append_drop (k + 1) Z, List.all_append, hst.out, Bool.false_and, Bool.false_and]
       go_wp2_with fail
       refine hN.mono ?_
       rintro e w1 ⟨rfl, hw1⟩
       subst hw1
       clear hN
       go_wp2_with fail
       go_ret
       exact ⟨by rw [hf.out]; rfl, o1.out⟩
     ·have hke : k = Z.length := by omega
      subst hke
      have hall' : Hid (Z.all numB = true) := by have h := hall.out; rw [List.take_length] at h; exact h
      have k1 : ¬ (Z.length : Int) < (Z.length : Int) := by omega
      by_cases h1 : 1 < Z.length
      ·have h2 : (1 : Int) < (Z.length : Int) := by omega
       have hf : Hid (typB (fold s.data.toList) = true) := by unfold Hid; rw [hty'.out, hall'.out, decide_eq_true h1]; rfl
       go_wp2_with fail
       go_ret
       exact ⟨by rw [hf.out]; rfl, o1.out⟩
      ·have h2 : ¬ (1 : Int) < (Z.length : Int) := by omega
       have hf : Hid (typB (fold s.data.toList) = false) := by unfold Hid; rw [hty'.out, decide_eq_false h1, Bool.and_false]
       go_wp2_with fail
       go_ret
       exact ⟨by rw [hf.out]; rfl, o1.out⟩
   ·go_enter Tryz.func74, Tryz.ntmps74
    go_wp2_with fail
    refine hP.mono ?_
    rintro e W1 ⟨⟨v, rfl, hO⟩, hb1⟩
    obtain ⟨va, vc, rfl, hrow⟩ := ownS_trow hO
    have hrow' : Hid (TRow W1 va Z) := hrow
    have o1 : Hid (Below w.heap.size w W1) := hb1
    have hl4 : Z.length ≤ 4194305 := hlen.out.1
    clear hO hrow hb1 hP
    go_wp2_with fail
    go_loopw [4] (fun iv wr => ∃ k : Nat, k ≤ Z.length ∧ iv = .int .i64 (k : Int) ∧ Hid ((Z.take k).all numB = true) ∧ W1 = wr) (fun iv _ => Z.length - (intOf iv).toNat)
    case atStart => exact ⟨0, Nat.zero_le _, rfl, rfl, rfl⟩
    case round =>
     obtain ⟨k, hk, rfl, hall, rfl⟩ := hrel
     by_cases hlt : k < Z.length
     ·obtain ⟨g, rfl, hc⟩ := hrow'.out k hlt
      have hN := numberR_any (S Z[k]) W1 (by rw [S_sizeR]; have := hlen.out.2 _ (List.getElem_mem hlt); omega)
      rw [S_l] at hN
      have k0 : (0 : Int) ≤ (k : Int) := Int.natCast_nonneg _
      have k1 : (k : Int) < (Z.length : Int) := Int.ofNat_lt.2 hlt
      have hst : Hid ((Z.take (k + 1)).all numB = numB Z[k]) := by
       unfold Hid
       rw [List.take_succ_eq_append_getElem hlt, List.all_append, hall.out, Bool.true_and, List.all_cons, List.all_nil, Bool.and_true]
      obtain ⟨x, hx⟩ : ∃ x, numB Z[k] = x := ⟨_, rfl⟩
      rw [hx] at hN hst
      have hlt' : Hid (k < Z.length) := hlt
      clear hx
      cases x with
      | true =>
       go_wp2_with fail
       refine hN.mono ?_
       rintro e w1 ⟨rfl, hw1⟩
       subst hw1
       clear hN
       go_wp2_with fail
       go_roundw
       case rel => exact ⟨k + 1, hlt'.out, by simp, hst, by trivial⟩
       case measure => have := hlt'.out; simp [intOf]; omega
      | false =>
       have hf : Hid (typB (fold s.data.toList) = false) := by
        unfold Hid
        rw [hty'.out, ← List.take_append_drop (k + 1) Z, List.all_append, hst.out, Bool.false_and, Bool.false_and]
       go_wp2_with fail
       refine hN.mono ?_
       rintro e w1 ⟨rfl, hw1⟩
       subst hw1
       clear hN
       go_wp2_with fail
       go_ret
       exact ⟨by rw [hf.out]; rfl, o1.out⟩
     ·have hke : k = Z.length := by omega
      subst hke
      have hall' : Hid (Z.all numB = true) := by have h := hall.out; rw [List.take_length] at h; exact h
      have k1 : ¬ (Z.length : Int) < (Z.length : Int) := by omega
      by_cases h1 : 1 < Z.length
      ·have h2 : (1 : Int) < (Z.length : Int) := by omega
       have hf : Hid (typB (fold s.data.toList) = true) := by unfold Hid; rw [hty'.out, hall'.out, decide_eq_true h1]; rfl
       go_wp2_with fail
       go_ret
       exact ⟨by rw [hf.out]; rfl, o1.out⟩
      ·have h2 : ¬ (1 : Int) < (Z.length : Int) := by omega
       have hf : Hid (typB (fold s.data.toList) = false) := by unfold Hid; rw [hty'.out, decide_eq_false h1, Bool.and_false]
       go_wp2_with fail
       go_ret
       exact ⟨by rw [hf.out]; rfl, o1.out⟩
   ·go_enter Tryz.func74, Tryz.ntmps74
    go_wp2_with fail
    refine hP.mono ?_
    rintro e W1 ⟨⟨v, rfl, hO⟩, hb1⟩
    obtain ⟨va, vc, rfl, hrow⟩ := ownS_trow hO
    have hrow' : Hid (TRow W1 va Z) := hrow
    have o1 : Hid (Below w.heap.size w W1) := hb1
    have hl4 : Z.length ≤ 4194305 := hlen.out.1
    clear hO hrow hb1 hP
    go_wp2_with fail
    go_loopw [4] (fun iv wr => ∃ k : Nat, k ≤ Z.length ∧ iv = .int .i64 (k : Int) ∧ Hid ((Z.take k).all numB = true) ∧ W1 = wr) (fun iv _ => Z.length - (intOf iv).toNat)
    case atStart => exact ⟨0, Nat.zero_le _, rfl, rfl, rfl⟩
    case round =>
     obtain ⟨k, hk, rfl, hall, rfl⟩ := hrel
     by_cases hlt : k < Z.length
     ·obtain ⟨g, rfl, hc⟩ := hrow'.out k hlt
      have hN := numberR_any (S Z[k]) W1 (by rw [S_sizeR]; have := hlen.out.2 _ (List.getElem_mem hlt); omega)
      rw [S_l] at hN
      have k0 : (0 : Int) ≤ (k : Int) := Int.natCast_nonneg _
      have k1 : (k : Int) < (Z.length : Int) := Int.ofNat_lt.2 hlt
      have hst : Hid ((Z.take (k + 1)).all numB = numB Z[k]) := by
       unfold Hid
       rw [List.take_succ_eq_append_getElem hlt, List.all_append, hall.out, Bool.true_and, List.all_cons, List.all_nil, Bool.and_true]
      obtain ⟨x, hx⟩ : ∃ x, numB Z[k] = x := ⟨_, rfl⟩
      rw [hx] at hN hst
      have hlt' : Hid (k < Z.length) := hlt
      clear hx
      cases x with
      | true =>
       go_wp2_with fail
       refine hN.mono ?_
       rintro e w1 ⟨rfl, hw1⟩
       subst hw1
       clear hN
       go_wp2_with fail
       go_roundw
       case rel => exact ⟨k + 1, hlt'.out, by simp, hst, by trivial⟩
       case measure => have := hlt'.out; simp [intOf]; omega
      | false =>
       have hf : Hid (typB (fold s.data.toList) = false) := by
        unfold Hid
        rw [hty'.out, ← List.take_append_drop (k + 1) Z, List.all_append, hst.out, Bool.false_and, Bool.false_and]
       go_wp2_with fail
       refine hN.mono ?_
       rintro e w1 ⟨rfl, hw1⟩
       subst hw1
       clear hN
       go_wp2_with fail
       go_ret
       exact ⟨by rw [hf.out]; rfl, o1.out⟩
     ·have hke : k = Z.length := by omega
      subst hke
      have hall' : Hid (Z.all numB = true) := by have h := hall.out; rw [List.take_length] at h; exact h
      have k1 : ¬ (Z.length : Int) < (Z.length : Int) := by omega
      by_cases h1 : 1 < Z.length
      ·have h2 : (1 : Int) < (Z.length : Int) := by omega
       have hf : Hid (typB (fold s.data.toList) = true) := by unfold Hid; rw [hty'.out, hall'.out, decide_eq_true h1]; rfl
       go_wp2_with fail
       go_ret
       exact ⟨by rw [hf.out]; rfl, o1.out⟩
      ·have h2 : ¬ (1 : Int) < (Z.length : Int) := by omega
       have hf : Hid (typB (fold s.data.toList) = false) := by unfold Hid; rw [hty'.out, decide_eq_false h1, Bool.and_false]
       go_wp2_with fail
       go_ret
       exact ⟨by rw [hf.out]; rfl, o1.out⟩
end Go.Proofs.YtkknenmpdimdbaaGreatDoor
namespace Go.Proofs.YtkknenmpdimdbaaGreatDoor
open Go.RowKit
open TextMath (fold lo)
set_option linter.unusedVariables false
end Go.Proofs.YtkknenmpdimdbaaGreatDoor
namespace Go.Proofs.YtkknenmpdimdbaaGreatDoor
open Go.RowKit
open TextMath (fold lo)
set_option linter.unusedVariables false
theorem fold_appR (a b : List UInt8) : fold (a ++ b) = fold a ++ fold b := by simp [fold]
def endR : Nat → ByteArray
 | 0 => ⟨#[]⟩
 | 1 => ⟨#[97]⟩
 | 2 => ⟨#[49]⟩
 | _ => ⟨#[46, 49]⟩
theorem endR_size (i : Nat) : (endR i).size ≤ 2 := by
 unfold endR
 split <;> decide
theorem endR_fold (i : Nat) : fold (endR i).data.toList = (endR i).data.toList := by
 unfold endR
 split <;> decide
theorem cut_lR (s : ByteArray) (n : Nat) : (s.extract 0 n).data.toList = s.data.toList.take n := by
 rw [ByteArray.data_extract, Array.toList_extract, List.extract_eq_take_drop]
 simp
theorem drun_front (l : List UInt8) (a b : Nat) (h : a ≤ b) (hb : drun 0 (l.take b) ≠ 9) : drun 0 (l.take a) ≠ 9 := fun q => hb (by
 have e : (l.take b).take a ++ (l.take b).drop a = l.take b := List.take_append_drop a (l.take b)
 rw [List.take_take, Nat.min_eq_left h] at e
 rw [← e, drun_app, q, drun9])
end Go.Proofs.YtkknenmpdimdbaaGreatDoor
