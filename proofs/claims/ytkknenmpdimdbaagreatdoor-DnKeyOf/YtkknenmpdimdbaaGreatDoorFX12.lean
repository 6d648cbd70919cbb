import Derived.Test.YtkknenmpdimdbaaGreatDoorFX11
import Derived.Test.YtkknenmpdimdbaaGreatDoorFX10
import Derived.Test.YtkknenmpdimdbaaGreatDoorAtBook
import Derived.Maps.OwnSet
import Derived.Maps.RangeWalk
import Derived.Maps.Ext
import Derived.Maps.AppendAt
import Derived.BigQuiet
import Derived.WalkKit
import Derived.Lib.Strings
import Derived.Test.YtkknenmpdimdbaaGreatDoorRows
import Derived.Deep.AppendLies
import Derived.Great.BuildSlice
import Derived.KernelRfl
import Derived.Lib.AppendZeros
namespace Go.Proofs.YtkknenmpdimdbaaGreatDoor
open Go.RowKit
open TextMath (ld wi seqLen check u)
def chkV (l : List UInt8) : Value := .tuple #[.int .i64 (if (check l).1 = true then 0 else 10), .int .i64 ((check l).2 : Nat)]
theorem chkV_bad (l : List UInt8) (k : Nat) (hk : k < l.length) (hc : check l = ((check (l.drop k)).1, k + (check (l.drop k)).2)) (h0 : seqLen (l.drop k) = 0) :
  Ending.returned (.tuple #[.int .i64 10, .int .i64 (k : Nat)]) = .returned (chkV l) := by
 rw [TextMath.check_bad (l.drop k) (by simp; omega) h0] at hc
 unfold chkV; rw [hc]; simp
theorem chkV_end (l : List UInt8) (k : Nat) (hk : ¬ k < l.length) (hc : check l = ((check (l.drop k)).1, k + (check (l.drop k)).2)) :
  Ending.returned (.tuple #[.int .i64 0, .int .i64 (k : Nat)]) = .returned (chkV l) := by
 rw [List.drop_eq_nil_of_le (by omega), TextMath.check_nil] at hc
 unfold chkV; rw [hc]; simp
theorem chk_step (l : List UInt8) (k : Nat) (hc : check l = ((check (l.drop k)).1, k + (check (l.drop k)).2)) (h0 : seqLen (l.drop k) ≠ 0) :
  check l = ((check (l.drop (k + seqLen (l.drop k)))).1, k + seqLen (l.drop k) + (check (l.drop (k + seqLen (l.drop k)))).2) := by
 rw [TextMath.check_good (l.drop k) h0, List.drop_drop] at hc
 rw [hc]; simp; omega
set_option maxHeartbeats 400000 in
theorem check_any (s : ByteArray) (w : World) (hm : s.size ≤ maxLen) :
  Calls Tryz.prog 29 #[.string s] w fun e w' => e = .returned (chkV s.data.toList) ∧ w' = w := by
 have hm' := hm
 unfold maxLen at hm
 have hL : Hid (s.data.toList.length = s.size) := by show s.data.toList.length = s.data.size; simp
 go_enter Tryz.func29, Tryz.ntmps29
 go_wp2
 go_loop [4] (fun i => ∃ k : Nat, k ≤ s.size ∧ i = .int .i64 k ∧ Hid (check s.data.toList = ((check (s.data.toList.drop k)).1, k + (check (s.data.toList.drop k)).2))) (fun i => s.size - (intOf i).toNat)
 case atStart => exact ⟨0, Nat.zero_le _, rfl, by unfold Hid; simp⟩
 case round =>
  obtain ⟨k, hk, rfl, hc⟩ := hrel
  by_cases hlt : k < s.size
  ·have hq := TextMath.seqLen_le (s.data.toList.drop k)
   have hq' : seqLen (s.data.toList.drop k) + k ≤ s.size := by rw [List.length_drop, hL.out] at hq; omega
   clear hq
   generalize hn : seqLen (s.data.toList.drop k) = n at *
   have Hn : Hid (seqLen (s.data.toList.drop k) = n) := hn
   clear hn
   by_cases hn0 : n = 0
   ·subst hn0
    go_wp2_with (go_at_call 56; refine (sequence_any _ _ ?_ ?_).mono ?_; simp; omega; simp [maxLen]; omega; rintro e w' ⟨rfl, rfl⟩; rw [drop_l, Hn.out])
    go_ret2
    exact ⟨chkV_bad _ k (by rw [hL.out]; exact hlt) hc.out Hn.out, rfl⟩
   ·have hz : (((n : Nat) : Int) == 0) = false := by simp; omega
    go_wp2_with (go_at_call 56; refine (sequence_any _ _ ?_ ?_).mono ?_; simp; omega; simp [maxLen]; omega; rintro e w' ⟨rfl, rfl⟩; rw [drop_l, Hn.out])
    go_round
    case rel => exact ⟨k + n, by omega, by go_num, by have h := chk_step _ k hc.out (by rw [Hn.out]; exact hn0); rw [Hn.out] at h; exact h⟩
    case measure => simp [intOf]; omega
  ·go_wp2
   go_ret2
   exact ⟨chkV_end _ k (by rw [hL.out]; exact hlt) hc.out, rfl⟩
end Go.Proofs.YtkknenmpdimdbaaGreatDoor

namespace Go.Proofs.YtkknenmpdimdbaaGreatDoor
open Go.RowKit
set_option linter.unusedVariables false
def TRow (w : World) (a : Option Addr) (l : List (List UInt8)) : Prop := ∀ i (hi : i < l.length), ∃ g, a = some ⟨g, 0, none⟩ ∧ w.cell? ⟨g, i, none⟩ = some (.string (S l[i]))
theorem ownS_trow {w : World} {B : Nat} {v : Value} {l : List (List UInt8)} (h : OwnS w B v l) : ∃ a c, v = .slice a l.length c ∧ TRow w a l := by
 rcases ownS_form h with ⟨rfl, rfl⟩ | ⟨g, cap, rfl⟩
 ·exact ⟨none, 0, rfl, fun i hi => by simp at hi⟩
 ·exact ⟨_, _, rfl, fun i hi => ⟨g, rfl, ownS_cell h i hi⟩⟩
theorem TRow.below {w w' : World} {a : Option Addr} {l : List (List UInt8)} (h : TRow w a l) (hb : Below w.heap.size w w') : TRow w' a l := fun i hi => by
 obtain ⟨g, e, h1⟩ := h i hi
 refine ⟨g, e, ?_⟩
 rw [hb.cell (World.block_lt_of_cell? w _ h1)]
 exact h1
def holds (there asked : List (List UInt8)) : Bool := asked.all fun x => decide (x ∈ there)
end Go.Proofs.YtkknenmpdimdbaaGreatDoor

namespace Go.Proofs.YtkknenmpdimdbaaGreatDoor
open Go.RowKit
set_option linter.unusedVariables false
def Row (w : World) (a : Option Addr) (l : List (List UInt8)) : Prop := ∀ i (hi : i < l.length), ∃ b off, a = some ⟨b, off, none⟩ ∧ w.cell? ⟨b, off + i, none⟩ = some (.string (S l[i]))
theorem TRow.drop {w : World} {g : Nat} {l : List (List UInt8)} (h : TRow w (some ⟨g, 0, none⟩) l) (k : Nat) : Row w (some ⟨g, k, none⟩) (l.drop k) := fun i hi => by
 rw [List.length_drop] at hi
 obtain ⟨g', e, h1⟩ := h (k + i) (by omega)
 injection e with e
 injection e with e1
 subst e1
 refine ⟨g, k, rfl, ?_⟩
 rw [h1]
 simp
theorem Row.below {w w' : World} {a : Option Addr} {l : List (List UInt8)} (h : Row w a l) (hb : Below w.heap.size w w') : Row w' a l := fun i hi => by
 obtain ⟨b, off, e, h1⟩ := h i hi
 refine ⟨b, off, e, ?_⟩
 rw [hb.cell (World.block_lt_of_cell? w _ h1)]
 exact h1
end Go.Proofs.YtkknenmpdimdbaaGreatDoor

namespace Go.Proofs.YtkknenmpdimdbaaGreatDoor
namespace DnMath
def Tot {α : Type} (T : α → α → Int) : Prop :=
 (∀ x y, T x y = -1 ∨ T x y = 0 ∨ T x y = 1) ∧ (∀ x y, T x y = 0 ↔ x = y) ∧ (∀ x y, T y x = - T x y) ∧ (∀ x y z, T x y ≤ 0 → T y z ≤ 0 → T x z ≤ 0)
def lx {α : Type} (T : α → α → Int) : List α → List α → Int
 | [], [] => 0
 | [], _ :: _ => -1
 | _ :: _, [] => 1
 | x :: a, y :: b => if T x y = 0 then lx T a b else T x y
variable {α : Type} {T : α → α → Int}
theorem Tot.self (h : Tot T) (x : α) : T x x = 0 := (h.2.1 x x).2 rfl
theorem lx_range (h : Tot T) : ∀ a b, lx T a b = -1 ∨ lx T a b = 0 ∨ lx T a b = 1
 | [], [] => Or.inr (Or.inl rfl)
 | [], _ :: _ => Or.inl rfl
 | _ :: _, [] => Or.inr (Or.inr rfl)
 | x :: a, y :: b => by
  unfold lx
  split
  ·exact lx_range h a b
  ·exact h.1 x y
theorem lx_eq (h : Tot T) : ∀ a b, lx T a b = 0 ↔ a = b
 | [], [] => by simp [lx]
 | [], _ :: _ => by simp [lx]
 | _ :: _, [] => by simp [lx]
 | x :: a, y :: b => by
  unfold lx
  split
  ·rename_i e
   rw [lx_eq h a b, (h.2.1 x y).1 e]
   simp
  ·rename_i e
   have hn : ¬ x = y := fun q => e ((h.2.1 x y).2 q)
   constructor
   ·intro q; exact absurd q e
   ·intro q; injection q with q1 _; exact absurd q1 hn
theorem lx_anti (h : Tot T) : ∀ a b, lx T b a = - lx T a b
 | [], [] => by simp [lx]
 | [], _ :: _ => by simp [lx]
 | _ :: _, [] => by simp [lx]
 | x :: a, y :: b => by
  unfold lx
  have e := h.2.2.1 x y
  by_cases q : T x y = 0
  ·rw [if_pos q, if_pos (by omega)]
   exact lx_anti h a b
  ·rw [if_neg q, if_neg (by omega)]
   exact e
theorem lx_trans (h : Tot T) : ∀ a b c, lx T a b ≤ 0 → lx T b c ≤ 0 → lx T a c ≤ 0
 | [], _, [] => by simp [lx]
 | [], _, _ :: _ => by simp [lx]
 | _ :: _, [], _ => by simp [lx]
 | _ :: _, _ :: _, [] => by simp [lx]
 | x :: a, y :: b, z :: c => by
  unfold lx
  intro h1 h2
  by_cases q : T x y = 0
  ·have e := (h.2.1 x y).1 q
   subst e
   rw [if_pos q] at h1
   by_cases r : T x z = 0
   ·rw [if_pos r] at h2 ⊢
    exact lx_trans h a b c h1 h2
   ·rw [if_neg r] at h2 ⊢
    exact h2
  ·rw [if_neg q] at h1
   by_cases r : T y z = 0
   ·have e := (h.2.1 y z).1 r
    subst e
    rw [if_neg q]
    exact h1
   ·rw [if_neg r] at h2
    have k := h.2.2.2 x y z h1 h2
    have hn : ¬ T x z = 0 := by
     intro e
     have e' := (h.2.1 x z).1 e
     subst e'
     have := h.2.2.1 x y
     omega
    rw [if_neg hn]
    exact k
theorem lx_tot (h : Tot T) : Tot (lx T) := ⟨lx_range h, lx_eq h, fun a b => lx_anti h a b, lx_trans h⟩
theorem lx_front (h : Tot T) (c : List α) : ∀ a, lx T a (a ++ c) = if c = [] then 0 else -1
 | [] => by cases c <;> simp [lx]
 | x :: a => by
  rw [List.cons_append]
  unfold lx
  rw [if_pos (h.self x)]
  exact lx_front h c a
theorem lx_between (h : Tot T) : ∀ (p a b c : List α), lx T (p ++ a) b ≤ 0 → lx T b (p ++ c) ≤ 0 → p <+: b
 | [], _, b, _ => fun _ _ => ⟨b, rfl⟩
 | x :: p, _, [], _ => by
  intro h1 _
  rw [List.cons_append] at h1
  simp [lx] at h1
 | x :: p, a, y :: b, c => by
  intro h1 h2
  rw [List.cons_append] at h1 h2
  unfold lx at h1 h2
  have e := h.2.2.1 x y
  by_cases q : T x y = 0
  ·rw [if_pos q] at h1
   rw [if_pos (by omega)] at h2
   obtain ⟨r, hr⟩ := lx_between h p a b c h1 h2
   have e2 := (h.2.1 x y).1 q
   subst e2
   exact ⟨r, by rw [← hr]; rfl⟩
  ·rw [if_neg q] at h1
   rw [if_neg (by omega)] at h2
   exfalso
   have := h.1 x y
   omega
def tb (x y : UInt8) : Int := if x < y then -1 else if y < x then 1 else 0
theorem tb_tot : Tot tb := by
 have key : ∀ x y : UInt8, (x < y ↔ x.toNat < y.toNat) := fun x y => UInt8.lt_iff_toNat_lt
 refine ⟨?_, ?_, ?_, ?_⟩
 ·intro x y
  unfold tb
  by_cases h1 : x < y
  ·rw [if_pos h1]; omega
  ·rw [if_neg h1]
   by_cases h2 : y < x
   ·rw [if_pos h2]; omega
   ·rw [if_neg h2]; omega
 ·intro x y
  unfold tb
  simp only [key]
  constructor
  ·intro q
   have : x.toNat = y.toNat := by
    by_cases h1 : x.toNat < y.toNat
    ·rw [if_pos h1] at q; omega
    ·rw [if_neg h1] at q
     by_cases h2 : y.toNat < x.toNat
     ·rw [if_pos h2] at q; omega
     ·omega
   exact UInt8.toNat_inj.1 this
  ·rintro rfl; simp
 ·intro x y
  unfold tb
  simp only [key]
  by_cases h1 : x.toNat < y.toNat
  ·rw [if_pos h1, if_neg (by omega), if_pos h1]; rfl
  ·by_cases h2 : y.toNat < x.toNat
   ·rw [if_pos h2, if_neg h1, if_pos h2]
   ·rw [if_neg h2, if_neg h1, if_neg h1, if_neg h2]; rfl
 ·intro x y z
  unfold tb
  simp only [key]
  intro a b
  by_cases h1 : x.toNat < z.toNat
  ·rw [if_pos h1]; omega
  ·by_cases h2 : z.toNat < x.toNat
   ·exfalso
    by_cases h3 : x.toNat < y.toNat
    ·by_cases h4 : y.toNat < z.toNat
     ·omega
     ·rw [if_neg h4, if_pos (by omega)] at b; omega
    ·rw [if_neg h3] at a
     by_cases h4 : y.toNat < x.toNat
     ·rw [if_pos h4] at a; omega
     ·rw [if_neg (by omega), if_pos (by omega)] at b; omega
   ·rw [if_neg h1, if_neg h2]; omega
def tt : List UInt8 → List UInt8 → Int := lx tb
theorem tt_tot : Tot tt := lx_tot tb_tot
def ck : List (List UInt8) → List (List UInt8) → Int := lx tt
theorem ck_tot : Tot ck := lx_tot tt_tot
theorem less_tt : ∀ x y : List UInt8, Op.bytesLess x y = decide (tt x y = -1)
 | [], [] => by simp [Op.bytesLess, tt, lx]
 | _ :: _, [] => by simp [Op.bytesLess, tt, lx]
 | [], _ :: _ => by simp [Op.bytesLess, tt, lx]
 | a :: x, b :: y => by
  have ih := less_tt x y
  have e : tt (a :: x) (b :: y) = if tb a b = 0 then tt x y else tb a b := rfl
  rw [e]
  unfold Op.bytesLess
  by_cases q : tb a b = 0
  ·have hab := (tb_tot.2.1 a b).1 q
   subst hab
   rw [if_pos q, ← ih]
   simp
  ·rw [if_neg q]
   have hab : ¬ a = b := fun z => q ((tb_tot.2.1 a b).2 z)
   unfold tb at q ⊢
   by_cases h1 : a < b
   ·simp [h1]
   ·by_cases h2 : b < a
    ·simp [h1, h2, hab]
    ·simp [h1, h2] at q
end DnMath
end Go.Proofs.YtkknenmpdimdbaaGreatDoor

namespace Go.Proofs.YtkknenmpdimdbaaGreatDoor
open Go.RowKit
theorem ownS_below {w w' : World} {B : Nat} {v : Value} {l : List (List UInt8)} (h : OwnS w B v l) (hb : Below w.heap.size w w') : OwnS w' B v l := by
 rcases h with ⟨h1, ⟨rfl, h2⟩ | ⟨g, cap, cur, rfl, h3, h4, h5⟩⟩
 ·exact ⟨h1, Or.inl ⟨rfl, h2⟩⟩
 ·have hg : g < w.heap.size := by
   rcases Nat.lt_or_ge g w.heap.size with h' | h'
   ·exact h'
   ·rw [Array.getElem?_eq_none h'] at h4; cases h4
  exact ⟨h1, Or.inr ⟨g, cap, cur, rfl, h3, by rw [hb.block g hg]; exact h4, h5⟩⟩
theorem ownS_formD {w : World} {B : Nat} {v : Value} {l : List (List UInt8)} (h : OwnS w B v l) : (v = .slice none 0 0 ∧ l = []) ∨ (∃ g cap, v = .slice (some ⟨g, 0, none⟩) l.length cap ∧ l.length ≤ cap ∧ g < w.heap.size ∧ B ≤ g) := by
 have hl := h.1
 rcases h.2 with ⟨rfl, hn⟩ | ⟨g, cap, cur, rfl, h3, h4, h5, _⟩
 ·exact Or.inl ⟨rfl, List.eq_nil_of_length_eq_zero hn⟩
 ·refine Or.inr ⟨g, cap, rfl, h5, ?_, h3⟩
  rcases Nat.lt_or_ge g w.heap.size with h' | h'
  ·exact h'
  ·rw [Array.getElem?_eq_none h'] at h4; cases h4
theorem Row.drewN {w : World} {a : Option Addr} {l : List (List UInt8)} (h : Row w a l) (k : Nat) : Row (w.drewN k) a l := fun i hi => by
 obtain ⟨b, off, e, h1⟩ := h i hi
 exact ⟨b, off, e, h1⟩
theorem Row.nil (w : World) (a : Option Addr) : Row w a [] := fun i hi => by simp at hi
theorem ownS_row {w : World} {B n c : Nat} {a : Option Addr} {l : List (List UInt8)} (h : OwnS w B (.slice a n c) l) : Row w a l ∧ n = l.length := by
 rcases ownS_formD h with ⟨h1, rfl⟩ | ⟨g, cap, h1, _⟩
 ·injection h1 with h1 h2
  exact ⟨Row.nil _ _, h2⟩
 ·injection h1 with h1 h2 h3
  subst h1 h2 h3
  exact ⟨fun i hi => ⟨g, 0, rfl, by rw [Nat.zero_add]; exact ownS_cell h i hi⟩, rfl⟩
set_option maxRecDepth 100000 in
theorem append_row (w : World) (B : Nat) (v : Value) (l k : List (List UInt8)) (a : Option Addr) (n c : Nat) (hown : OwnS w B v l) (hk : Row w a k) (hn : n = k.length) (hB : B ≤ w.heap.size) (hsz : (l.length + k.length) * 16 ≤ 140737488355328) :
  ∃ v' w', (Builtin.append_ #[36, 36] 36 #[v, .slice a n c]).run Tryz.prog w = .ok v' w' ∧ OwnS w' B v' (l ++ k) ∧ Below B w w' := by
 subst hn
 obtain ⟨i0, hi, hz0, hz1, hz2⟩ := info_parts info_str
 by_cases h0 : k.length = 0
 ·have hk0 := List.eq_nil_of_length_eq_zero h0
  subst hk0
  refine ⟨v, w, ?_, by rw [List.append_nil]; exact hown, Below.refl _ _⟩
  cases a with
  | none =>
   rcases ownS_formD hown with ⟨rfl, rfl⟩ | ⟨g, cap, rfl, hc, _⟩
   ·simp [Builtin.append_, run_underlying Tryz.underlying36, sizeOf, typeInfo, hi, Builtin.lenOf, Builtin.firstCells]
   ·simp [Builtin.append_, run_underlying Tryz.underlying36, sizeOf, typeInfo, hi, Builtin.lenOf, Builtin.firstCells, hc, storeCells]
  | some d =>
   rcases ownS_formD hown with ⟨rfl, rfl⟩ | ⟨g, cap, rfl, hc, _⟩
   ·simp [Builtin.append_, run_underlying Tryz.underlying36, sizeOf, typeInfo, hi, Builtin.lenOf, Builtin.firstCells, loadCells, loadCellsFrom]
   ·simp [Builtin.append_, run_underlying Tryz.underlying36, sizeOf, typeInfo, hi, Builtin.lenOf, Builtin.firstCells, loadCells, loadCellsFrom, hc, storeCells]
 ·obtain ⟨b, off, rfl, _⟩ := hk 0 (by omega)
  have hnews : ∀ j u, (sv k)[j]? = some u → w.cell? ((⟨b, off, none⟩ : Addr).add j) = some u := by
   intro j u hj
   have hjn : j < k.length := by
    rcases Nat.lt_or_ge j k.length with h' | h'
    ·exact h'
    ·rw [List.getElem?_eq_none (by rw [sv_len]; exact h')] at hj; cases hj
   obtain ⟨b', off', e, hc⟩ := hk j hjn
   injection e with e
   injection e with e1 e2
   subst e1 e2
   rw [add_off, hc, ← hj]
   simp [sv, hjn]
  obtain ⟨g, cap, w', hr, h2, h3, _, _⟩ := run_append_lies (P := Tryz.prog) w 36 36 B 9 i0 _ 1 16 Tryz.underlying36 hi hz0 hz1 hz2 rfl (by decide) v l.length (sv l) hown ⟨b, off, none⟩ k.length c (sv k) (by rw [sv_len, Nat.mul_one]) hnews (sv_one _) (by omega) (by unfold maxLen; omega) hsz hB w.heap.size rfl
  refine ⟨_, w', hr, ?_, (Below.refl _ _).grown h3 hB (fun j hj => (World.ownsRow.lt (show w.ownsRow B 9 1 v l.length (sv l) from hown) _ hj).1)⟩
  unfold OwnS
  rw [sv_app, List.length_append]
  exact h2
end Go.Proofs.YtkknenmpdimdbaaGreatDoor

namespace Go.Proofs.YtkknenmpdimdbaaGreatDoor
open Go.RowKit
open DnMath (Tot lx tb tt ck tb_tot tt_tot ck_tot less_tt lx_front lx_between)
set_option linter.unusedVariables false
theorem toList_S (x : List UInt8) : (S x).toList = x := by rw [Lib.toList_data, S_l]
end Go.Proofs.YtkknenmpdimdbaaGreatDoor

namespace Go.Proofs.YtkknenmpdimdbaaGreatDoor
open Go.RowKit
open DnMath (Tot lx tb tt ck tb_tot tt_tot ck_tot less_tt lx_front lx_between)
set_option linter.unusedVariables false
theorem take_step {l k : List (List UInt8)} {i : Nat} (h : l.take i = k.take i) (h1 : i < l.length) (h2 : i < k.length) (e : l[i] = k[i]) : l.take (i + 1) = k.take (i + 1) := by
 rw [List.take_succ_eq_append_getElem h1, List.take_succ_eq_append_getElem h2, h, e]
theorem ne_at {l k : List (List UInt8)} {i : Nat} (h1 : i < l.length) (h2 : i < k.length) (e : ¬ l[i] = k[i]) : ¬ l = k := by
 intro q; subst q; exact e rfl
theorem whole_eq {l k : List (List UInt8)} (h : l.take l.length = k.take l.length) (e : l.length = k.length) : l = k := by
 rw [List.take_length, e, List.take_length] at h
 exact h
theorem str_ne {x y : List UInt8} (h : ¬ x = y) : ((S x).toList == (S y).toList) = false := by
 rw [toList_S, toList_S]
 simp [h]
set_option maxHeartbeats 1000000 in
theorem sameTexts_loop (l k : List (List UInt8)) (a b : Option Addr) (c d : Nat) (w : World) (hl : l.length ≤ 9223372036854775807) (hk : k.length ≤ 9223372036854775807) (hlen : l.length = k.length) (h1 : Row w a l) (h2 : Row w b k) :
  Calls Tryz.prog 15 #[.slice a l.length c, .slice b k.length d] w fun e w' => e = .returned (.bool (decide (l = k))) ∧ ∃ q, w' = w.drewN q := by
 have hlen' : Hid (l.length = k.length) := hlen
 have hb0 : ((l.length : Int) != (k.length : Int)) = false := by rw [hlen]; simp
 go_enter Tryz.func15, Tryz.ntmps15
 clear hlen
 go_wp2_with fail
 go_loopw [5] (fun iv wr => ∃ i q : Nat, i ≤ l.length ∧ iv = .int .i64 (i : Int) ∧ Hid (l.take i = k.take i) ∧ Hid (wr = w.drewN q)) (fun iv _ => l.length - (intOf iv).toNat)
 case atStart => exact ⟨0, 0, Nat.zero_le _, rfl, by unfold Hid; simp, rfl⟩
 case round =>
  obtain ⟨i, q, hi, rfl, htk, hw⟩ := hrel
  have hlen := hlen'.out
  by_cases hlt : i < l.length
  ·have hlk : i < k.length := by omega
   obtain ⟨b1, o1, rfl, c1⟩ := h1 i hlt
   obtain ⟨b2, o2, rfl, c2⟩ := h2 i hlk
   have hE : ∀ a, wr.cell? a = w.cell? a := fun a => by rw [hw.out]; rfl
   rw [← hE] at c1 c2
   have i0 : (0 : Int) ≤ (i : Int) := Int.natCast_nonneg _
   have i1 : (i : Int) < (l.length : Int) := Int.ofNat_lt.2 hlt
   have i2 : (i : Int) < (k.length : Int) := Int.ofNat_lt.2 hlk
   by_cases hx : l[i] = k[i]
   ·have htk' : Hid (l.take (i + 1) = k.take (i + 1)) := take_step htk.out hlt hlk hx
    rw [← hx] at c2
    generalize S l[i] = X at *
    clear hE hx hlen h1 h2
    go_wp2_with fail
    go_quiet (fail)
    go_wp2_with fail
    go_roundw
    case rel => exact ⟨i + 1, _, hlt, by simp, htk', by unfold Hid; rw [hw.out, World.drewN_drewN]⟩
    case measure => simp [intOf]; omega
   ·have hne := str_ne hx
    have hno : Hid (¬ l = k) := ne_at hlt hlk hx
    generalize S l[i] = X at *
    generalize S k[i] = Y at *
    clear hE hx hlen h1 h2
    go_wp2_with fail
    go_quiet (fail)
    go_wp2_with fail
    go_ret
    exact ⟨by rw [decide_eq_false hno.out]; rfl, _, by rw [hw.out, World.drewN_drewN]⟩
  ·have hle : i = l.length := by omega
   subst hle
   have hyes : Hid (l = k) := (whole_eq htk.out hlen)
   clear h1 h2 hlen
   go_wp2_with fail
   go_ret
   exact ⟨by rw [decide_eq_true hyes.out]; rfl, q, hw.out⟩
set_option maxHeartbeats 400000 in
theorem sameTexts_any (l k : List (List UInt8)) (a b : Option Addr) (c d : Nat) (w : World) (hl : l.length ≤ 9223372036854775807) (hk : k.length ≤ 9223372036854775807) (h1 : Row w a l) (h2 : Row w b k) :
  Calls Tryz.prog 15 #[.slice a l.length c, .slice b k.length d] w fun e w' => e = .returned (.bool (decide (l = k))) ∧ ∃ q, w' = w.drewN q := by
 by_cases hlen : l.length = k.length
 ·exact sameTexts_loop l k a b c d w hl hk hlen h1 h2
 ·have hno : Hid (¬ l = k) := fun q => hlen (by rw [q])
  have hb0 : ((l.length : Int) != (k.length : Int)) = true := by simp; omega
  clear hlen h1 h2
  go_enter Tryz.func15, Tryz.ntmps15
  go_wp2_with fail
  go_ret
  exact ⟨by rw [decide_eq_false hno.out]; rfl, 0, rfl⟩
end Go.Proofs.YtkknenmpdimdbaaGreatDoor

namespace Go.Proofs.YtkknenmpdimdbaaGreatDoor
open Go.RowKit
open DnMath (Tot lx tb tt ck tb_tot tt_tot ck_tot less_tt lx_front lx_between)
set_option linter.unusedVariables false
theorem own_empty (w : World) : OwnS (w.alloc (.cells #[] 9)) w.heap.size (.slice (some ⟨w.heap.size, 0, none⟩) 0 0) [] :=
 ⟨rfl, Or.inr ⟨w.heap.size, 0, #[], rfl, Nat.le_refl _, heap_alloc_new w _, Nat.le_refl _, by unfold maxLen; omega, rfl, rfl⟩⟩
end Go.Proofs.YtkknenmpdimdbaaGreatDoor
