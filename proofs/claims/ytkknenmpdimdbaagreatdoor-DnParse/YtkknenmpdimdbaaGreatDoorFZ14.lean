import Derived.Test.YtkknenmpdimdbaaGreatDoorFZ13
import Derived.Test.YtkknenmpdimdbaaGreatDoorFZ12
import Derived.Test.YtkknenmpdimdbaaGreatDoorAtBook
import Derived.Maps.OwnSet
import Derived.Maps.RangeWalk
import Derived.Maps.Ext
import Derived.Maps.AppendAt
import Derived.BigQuiet
import Derived.WalkKit
import Derived.Lib.Strings
import Derived.Test.YtkknenmpdimdbaaGreatDoorRows
import Derived.Deep.AppendLies
import Derived.Great.BuildSlice
import Derived.KernelRfl
import Derived.Lib.AppendZeros
import Derived.Test.YtkknenmpdimdbaaGreatDoorAtShelf
namespace Go.Proofs.YtkknenmpdimdbaaGreatDoor
open Go.RowKit
open TextMath (ld wi seqLen check u)

/-- What Check answers of a text. -/
def chkV (l : List UInt8) : Value := .tuple #[.int .i64 (if (check l).1 = true then 0 else 10), .int .i64 ((check l).2 : Nat)]

theorem chkV_bad (l : List UInt8) (k : Nat) (hk : k < l.length) (hc : check l = ((check (l.drop k)).1, k + (check (l.drop k)).2)) (h0 : seqLen (l.drop k) = 0) :
    Ending.returned (.tuple #[.int .i64 10, .int .i64 (k : Nat)]) = .returned (chkV l) := by
  rw [TextMath.check_bad (l.drop k) (by simp; omega) h0] at hc
  unfold chkV; rw [hc]; simp
theorem chkV_end (l : List UInt8) (k : Nat) (hk : ¬ k < l.length) (hc : check l = ((check (l.drop k)).1, k + (check (l.drop k)).2)) :
    Ending.returned (.tuple #[.int .i64 0, .int .i64 (k : Nat)]) = .returned (chkV l) := by
  rw [List.drop_eq_nil_of_le (by omega), TextMath.check_nil] at hc
  unfold chkV; rw [hc]; simp
theorem chk_step (l : List UInt8) (k : Nat) (hc : check l = ((check (l.drop k)).1, k + (check (l.drop k)).2)) (h0 : seqLen (l.drop k) ≠ 0) :
    check l = ((check (l.drop (k + seqLen (l.drop k)))).1, k + seqLen (l.drop k) + (check (l.drop (k + seqLen (l.drop k)))).2) := by
  rw [TextMath.check_good (l.drop k) h0, List.drop_drop] at hc
  rw [hc]; simp; omega

set_option maxHeartbeats 400000 in
theorem check_any (s : ByteArray) (w : World) (hm : s.size ≤ maxLen) :
    Calls Tryz.prog 29 #[.string s] w fun e w' => e = .returned (chkV s.data.toList) ∧ w' = w := by
  have hm' := hm
  unfold maxLen at hm
  have hL : Hid (s.data.toList.length = s.size) := by show s.data.toList.length = s.data.size; simp
  go_enter Tryz.func29, Tryz.ntmps29
  go_wp2
  go_loop [4] (fun i => ∃ k : Nat, k ≤ s.size ∧ i = .int .i64 k ∧ Hid (check s.data.toList = ((check (s.data.toList.drop k)).1, k + (check (s.data.toList.drop k)).2))) (fun i => s.size - (intOf i).toNat)
  case atStart => exact ⟨0, Nat.zero_le _, rfl, by unfold Hid; simp⟩
  case round =>
    obtain ⟨k, hk, rfl, hc⟩ := hrel
    by_cases hlt : k < s.size
    · have hq := TextMath.seqLen_le (s.data.toList.drop k)
      have hq' : seqLen (s.data.toList.drop k) + k ≤ s.size := by rw [List.length_drop, hL.out] at hq; omega
      clear hq
      generalize hn : seqLen (s.data.toList.drop k) = n at *
      have Hn : Hid (seqLen (s.data.toList.drop k) = n) := hn
      clear hn
      by_cases hn0 : n = 0
      · subst hn0
        go_wp2_with (go_at_call 56; refine (sequence_any _ _ ?_ ?_).mono ?_; simp; omega; simp [maxLen]; omega; rintro e w' ⟨rfl, rfl⟩; rw [drop_l, Hn.out])
        go_ret2
        exact ⟨chkV_bad _ k (by rw [hL.out]; exact hlt) hc.out Hn.out, rfl⟩
      · have hz : (((n : Nat) : Int) == 0) = false := by simp; omega
        go_wp2_with (go_at_call 56; refine (sequence_any _ _ ?_ ?_).mono ?_; simp; omega; simp [maxLen]; omega; rintro e w' ⟨rfl, rfl⟩; rw [drop_l, Hn.out])
        go_round
        case rel => exact ⟨k + n, by omega, by go_num, by have h := chk_step _ k hc.out (by rw [Hn.out]; exact hn0); rw [Hn.out] at h; exact h⟩
        case measure => simp [intOf]; omega
    · go_wp2
      go_ret2
      exact ⟨chkV_end _ k (by rw [hL.out]; exact hlt) hc.out, rfl⟩
end Go.Proofs.YtkknenmpdimdbaaGreatDoor

namespace Go.Proofs.YtkknenmpdimdbaaGreatDoor
open Go.RowKit
set_option linter.unusedVariables false

theorem lit_ne {x y : List UInt8} (h : ¬ x = y) : (Lit.string x) ≠ .string y := fun e => h (by injection e)
/-- A row of texts by its cells: nothing, or a block. -/
def TRow (w : World) (a : Option Addr) (l : List (List UInt8)) : Prop := ∀ i (hi : i < l.length), ∃ g, a = some ⟨g, 0, none⟩ ∧ w.cell? ⟨g, i, none⟩ = some (.string (S l[i]))
theorem ownS_trow {w : World} {B : Nat} {v : Value} {l : List (List UInt8)} (h : OwnS w B v l) : ∃ a c, v = .slice a l.length c ∧ TRow w a l := by
  rcases ownS_form h with ⟨rfl, rfl⟩ | ⟨g, cap, rfl⟩
  · exact ⟨none, 0, rfl, fun i hi => by simp at hi⟩
  · exact ⟨_, _, rfl, fun i hi => ⟨g, rfl, ownS_cell h i hi⟩⟩
theorem TRow.below {w w' : World} {a : Option Addr} {l : List (List UInt8)} (h : TRow w a l) (hb : Below w.heap.size w w') : TRow w' a l := fun i hi => by
  obtain ⟨g, e, h1⟩ := h i hi
  refine ⟨g, e, ?_⟩
  rw [hb.cell (World.block_lt_of_cell? w _ h1)]
  exact h1

/-- A map that holds just the texts of a list, none twice. -/
def SetIs (D : DataW Unit) (L : List (List UInt8)) : Prop := (∀ x, Maps.has D (.string x) = decide (x ∈ L)) ∧ L.Nodup ∧ Maps.size D = L.length
theorem SetIs.zero : SetIs (.map []) [] := ⟨fun x => rfl, List.nodup_nil, rfl⟩
theorem SetIs.put {D : DataW Unit} {L : List (List UInt8)} (h : SetIs D L) (hm : Maps.IsMap D) (ht : Maps.Tidy D) (x : List UInt8) : ∃ L', SetIs (D.put (.string x) (.agg [])) L' ∧ ∀ y, y ∈ L' ↔ y ∈ L ∨ y = x := by
  have hx := h.1 x
  by_cases e : x ∈ L
  · refine ⟨L, ⟨fun y => ?_, h.2.1, ?_⟩, fun y => ⟨Or.inl, fun q => by rcases q with q | rfl <;> assumption⟩⟩
    · by_cases ey : y = x
      · subst ey; rw [Maps.has_put_same hm (show WideAt.IsKeyLit (Lit.string _) from trivial)]; simp [e]
      · rw [Maps.has_put_other (lit_ne ey), h.1 y]
    · rw [Maps.size_put ht, hx, if_pos (by simp [e])]; exact h.2.2
  · refine ⟨L ++ [x], ⟨fun y => ?_, ?_, ?_⟩, fun y => by simp⟩
    · by_cases ey : y = x
      · subst ey; rw [Maps.has_put_same hm (show WideAt.IsKeyLit (Lit.string _) from trivial)]; simp
      · rw [Maps.has_put_other (lit_ne ey), h.1 y]; simp [ey]
    · rw [List.nodup_append]
      refine ⟨h.2.1, by simp, ?_⟩
      intro a ha b hb
      simp at hb
      subst hb
      intro q
      subst q
      exact e ha
    · rw [Maps.size_put ht, hx, if_neg (by simp [e]), h.2.2]; simp
/-- Whether each asked text is there. -/
def holds (there asked : List (List UInt8)) : Bool := asked.all fun x => decide (x ∈ there)
end Go.Proofs.YtkknenmpdimdbaaGreatDoor

namespace Go.Proofs.YtkknenmpdimdbaaGreatDoor
open Go.RowKit
set_option linter.unusedVariables false

/-- A row of texts, wherever it lies. -/
def Row (w : World) (a : Option Addr) (l : List (List UInt8)) : Prop := ∀ i (hi : i < l.length), ∃ b off, a = some ⟨b, off, none⟩ ∧ w.cell? ⟨b, off + i, none⟩ = some (.string (S l[i]))
theorem TRow.row {w : World} {a : Option Addr} {l : List (List UInt8)} (h : TRow w a l) : Row w a l := fun i hi => by
  obtain ⟨g, e, h1⟩ := h i hi
  exact ⟨g, 0, e, by rw [Nat.zero_add]; exact h1⟩
theorem TRow.drop {w : World} {g : Nat} {l : List (List UInt8)} (h : TRow w (some ⟨g, 0, none⟩) l) (k : Nat) : Row w (some ⟨g, k, none⟩) (l.drop k) := fun i hi => by
  rw [List.length_drop] at hi
  obtain ⟨g', e, h1⟩ := h (k + i) (by omega)
  injection e with e
  injection e with e1
  subst e1
  refine ⟨g, k, rfl, ?_⟩
  rw [h1]
  simp
theorem Row.below {w w' : World} {a : Option Addr} {l : List (List UInt8)} (h : Row w a l) (hb : Below w.heap.size w w') : Row w' a l := fun i hi => by
  obtain ⟨b, off, e, h1⟩ := h i hi
  refine ⟨b, off, e, ?_⟩
  rw [hb.cell (World.block_lt_of_cell? w _ h1)]
  exact h1
end Go.Proofs.YtkknenmpdimdbaaGreatDoor

namespace Go.Proofs.YtkknenmpdimdbaaGreatDoor
namespace DnMath

/-- A way to compare in three answers that is a total order. -/
def Tot {α : Type} (T : α → α → Int) : Prop :=
  (∀ x y, T x y = -1 ∨ T x y = 0 ∨ T x y = 1) ∧ (∀ x y, T x y = 0 ↔ x = y) ∧ (∀ x y, T y x = - T x y) ∧ (∀ x y z, T x y ≤ 0 → T y z ≤ 0 → T x z ≤ 0)
/-- Lists, by the first that differ; else the shorter one ahead. -/
def lx {α : Type} (T : α → α → Int) : List α → List α → Int
  | [], [] => 0
  | [], _ :: _ => -1
  | _ :: _, [] => 1
  | x :: a, y :: b => if T x y = 0 then lx T a b else T x y

variable {α : Type} {T : α → α → Int}
theorem Tot.self (h : Tot T) (x : α) : T x x = 0 := (h.2.1 x x).2 rfl
theorem lx_range (h : Tot T) : ∀ a b, lx T a b = -1 ∨ lx T a b = 0 ∨ lx T a b = 1
  | [], [] => Or.inr (Or.inl rfl)
  | [], _ :: _ => Or.inl rfl
  | _ :: _, [] => Or.inr (Or.inr rfl)
  | x :: a, y :: b => by
    unfold lx
    split
    · exact lx_range h a b
    · exact h.1 x y
theorem lx_eq (h : Tot T) : ∀ a b, lx T a b = 0 ↔ a = b
  | [], [] => by simp [lx]
  | [], _ :: _ => by simp [lx]
  | _ :: _, [] => by simp [lx]
  | x :: a, y :: b => by
    unfold lx
    split
    · rename_i e
      rw [lx_eq h a b, (h.2.1 x y).1 e]
      simp
    · rename_i e
      have hn : ¬ x = y := fun q => e ((h.2.1 x y).2 q)
      constructor
      · intro q; exact absurd q e
      · intro q; injection q with q1 _; exact absurd q1 hn
theorem lx_anti (h : Tot T) : ∀ a b, lx T b a = - lx T a b
  | [], [] => by simp [lx]
  | [], _ :: _ => by simp [lx]
  | _ :: _, [] => by simp [lx]
  | x :: a, y :: b => by
    unfold lx
    have e := h.2.2.1 x y
    by_cases q : T x y = 0
    · rw [if_pos q, if_pos (by omega)]
      exact lx_anti h a b
    · rw [if_neg q, if_neg (by omega)]
      exact e
theorem lx_trans (h : Tot T) : ∀ a b c, lx T a b ≤ 0 → lx T b c ≤ 0 → lx T a c ≤ 0
  | [], _, [] => by simp [lx]
  | [], _, _ :: _ => by simp [lx]
  | _ :: _, [], _ => by simp [lx]
  | _ :: _, _ :: _, [] => by simp [lx]
  | x :: a, y :: b, z :: c => by
    unfold lx
    intro h1 h2
    by_cases q : T x y = 0
    · have e := (h.2.1 x y).1 q
      subst e
      rw [if_pos q] at h1
      by_cases r : T x z = 0
      · rw [if_pos r] at h2 ⊢
        exact lx_trans h a b c h1 h2
      · rw [if_neg r] at h2 ⊢
        exact h2
    · rw [if_neg q] at h1
      by_cases r : T y z = 0
      · have e := (h.2.1 y z).1 r
        subst e
        rw [if_neg q]
        exact h1
      · rw [if_neg r] at h2
        have k := h.2.2.2 x y z h1 h2
        have hn : ¬ T x z = 0 := by
          intro e
          have e' := (h.2.1 x z).1 e
          subst e'
          have := h.2.2.1 x y
          omega
        rw [if_neg hn]
        exact k
theorem lx_tot (h : Tot T) : Tot (lx T) := ⟨lx_range h, lx_eq h, fun a b => lx_anti h a b, lx_trans h⟩
theorem lx_front (h : Tot T) (c : List α) : ∀ a, lx T a (a ++ c) = if c = [] then 0 else -1
  | [] => by cases c <;> simp [lx]
  | x :: a => by
    rw [List.cons_append]
    unfold lx
    rw [if_pos (h.self x)]
    exact lx_front h c a
/-- What stands between two that begin with 'p' begins with 'p'. -/
theorem lx_between (h : Tot T) : ∀ (p a b c : List α), lx T (p ++ a) b ≤ 0 → lx T b (p ++ c) ≤ 0 → p <+: b
  | [], _, b, _ => fun _ _ => ⟨b, rfl⟩
  | x :: p, _, [], _ => by
    intro h1 _
    rw [List.cons_append] at h1
    simp [lx] at h1
  | x :: p, a, y :: b, c => by
    intro h1 h2
    rw [List.cons_append] at h1 h2
    unfold lx at h1 h2
    have e := h.2.2.1 x y
    by_cases q : T x y = 0
    · rw [if_pos q] at h1
      rw [if_pos (by omega)] at h2
      obtain ⟨r, hr⟩ := lx_between h p a b c h1 h2
      have e2 := (h.2.1 x y).1 q
      subst e2
      exact ⟨r, by rw [← hr]; rfl⟩
    · rw [if_neg q] at h1
      rw [if_neg (by omega)] at h2
      exfalso
      have := h.1 x y
      omega

/-- Bytes. -/
def tb (x y : UInt8) : Int := if x < y then -1 else if y < x then 1 else 0
theorem tb_tot : Tot tb := by
  have key : ∀ x y : UInt8, (x < y ↔ x.toNat < y.toNat) := fun x y => UInt8.lt_iff_toNat_lt
  refine ⟨?_, ?_, ?_, ?_⟩
  · intro x y
    unfold tb
    by_cases h1 : x < y
    · rw [if_pos h1]; omega
    · rw [if_neg h1]
      by_cases h2 : y < x
      · rw [if_pos h2]; omega
      · rw [if_neg h2]; omega
  · intro x y
    unfold tb
    simp only [key]
    constructor
    · intro q
      have : x.toNat = y.toNat := by
        by_cases h1 : x.toNat < y.toNat
        · rw [if_pos h1] at q; omega
        · rw [if_neg h1] at q
          by_cases h2 : y.toNat < x.toNat
          · rw [if_pos h2] at q; omega
          · omega
      exact UInt8.toNat_inj.1 this
    · rintro rfl; simp
  · intro x y
    unfold tb
    simp only [key]
    by_cases h1 : x.toNat < y.toNat
    · rw [if_pos h1, if_neg (by omega), if_pos h1]; rfl
    · by_cases h2 : y.toNat < x.toNat
      · rw [if_pos h2, if_neg h1, if_pos h2]
      · rw [if_neg h2, if_neg h1, if_neg h1, if_neg h2]; rfl
  · intro x y z
    unfold tb
    simp only [key]
    intro a b
    by_cases h1 : x.toNat < z.toNat
    · rw [if_pos h1]; omega
    · by_cases h2 : z.toNat < x.toNat
      · exfalso
        by_cases h3 : x.toNat < y.toNat
        · by_cases h4 : y.toNat < z.toNat
          · omega
          · rw [if_neg h4, if_pos (by omega)] at b; omega
        · rw [if_neg h3] at a
          by_cases h4 : y.toNat < x.toNat
          · rw [if_pos h4] at a; omega
          · rw [if_neg (by omega), if_pos (by omega)] at b; omega
      · rw [if_neg h1, if_neg h2]; omega
/-- Texts. -/
def tt : List UInt8 → List UInt8 → Int := lx tb
theorem tt_tot : Tot tt := lx_tot tb_tot
/-- Keys. -/
def ck : List (List UInt8) → List (List UInt8) → Int := lx tt
theorem ck_tot : Tot ck := lx_tot tt_tot
theorem less_tt : ∀ x y : List UInt8, Op.bytesLess x y = decide (tt x y = -1)
  | [], [] => by simp [Op.bytesLess, tt, lx]
  | _ :: _, [] => by simp [Op.bytesLess, tt, lx]
  | [], _ :: _ => by simp [Op.bytesLess, tt, lx]
  | a :: x, b :: y => by
    have ih := less_tt x y
    have e : tt (a :: x) (b :: y) = if tb a b = 0 then tt x y else tb a b := rfl
    rw [e]
    unfold Op.bytesLess
    by_cases q : tb a b = 0
    · have hab := (tb_tot.2.1 a b).1 q
      subst hab
      rw [if_pos q, ← ih]
      simp
    · rw [if_neg q]
      have hab : ¬ a = b := fun z => q ((tb_tot.2.1 a b).2 z)
      unfold tb at q ⊢
      by_cases h1 : a < b
      · simp [h1]
      · by_cases h2 : b < a
        · simp [h1, h2, hab]
        · simp [h1, h2] at q
end DnMath
end Go.Proofs.YtkknenmpdimdbaaGreatDoor

namespace Go.Proofs.YtkknenmpdimdbaaGreatDoor
open Go.RowKit

theorem ownS_below {w w' : World} {B : Nat} {v : Value} {l : List (List UInt8)} (h : OwnS w B v l) (hb : Below w.heap.size w w') : OwnS w' B v l := by
  rcases h with ⟨h1, ⟨rfl, h2⟩ | ⟨g, cap, cur, rfl, h3, h4, h5⟩⟩
  · exact ⟨h1, Or.inl ⟨rfl, h2⟩⟩
  · have hg : g < w.heap.size := by
      rcases Nat.lt_or_ge g w.heap.size with h' | h'
      · exact h'
      · rw [Array.getElem?_eq_none h'] at h4; cases h4
    exact ⟨h1, Or.inr ⟨g, cap, cur, rfl, h3, by rw [hb.block g hg]; exact h4, h5⟩⟩
theorem ownS_formD {w : World} {B : Nat} {v : Value} {l : List (List UInt8)} (h : OwnS w B v l) : (v = .slice none 0 0 ∧ l = []) ∨ (∃ g cap, v = .slice (some ⟨g, 0, none⟩) l.length cap ∧ l.length ≤ cap ∧ g < w.heap.size ∧ B ≤ g) := by
  have hl := h.1
  rcases h.2 with ⟨rfl, hn⟩ | ⟨g, cap, cur, rfl, h3, h4, h5, _⟩
  · exact Or.inl ⟨rfl, List.eq_nil_of_length_eq_zero hn⟩
  · refine Or.inr ⟨g, cap, rfl, h5, ?_, h3⟩
    rcases Nat.lt_or_ge g w.heap.size with h' | h'
    · exact h'
    · rw [Array.getElem?_eq_none h'] at h4; cases h4
theorem Row.drewN {w : World} {a : Option Addr} {l : List (List UInt8)} (h : Row w a l) (k : Nat) : Row (w.drewN k) a l := fun i hi => by
  obtain ⟨b, off, e, h1⟩ := h i hi
  exact ⟨b, off, e, h1⟩
theorem Row.front {w : World} {a : Option Addr} {l k : List (List UInt8)} (h : Row w a (l ++ k)) : Row w a l := fun i hi => by
  obtain ⟨b, off, e, h1⟩ := h i (by rw [List.length_append]; omega)
  refine ⟨b, off, e, ?_⟩
  rw [h1, List.getElem_append_left hi]
theorem Row.nil (w : World) (a : Option Addr) : Row w a [] := fun i hi => by simp at hi
theorem ownS_row {w : World} {B n c : Nat} {a : Option Addr} {l : List (List UInt8)} (h : OwnS w B (.slice a n c) l) : Row w a l ∧ n = l.length := by
  rcases ownS_formD h with ⟨h1, rfl⟩ | ⟨g, cap, h1, _⟩
  · injection h1 with h1 h2
    exact ⟨Row.nil _ _, h2⟩
  · injection h1 with h1 h2 h3
    subst h1 h2 h3
    exact ⟨fun i hi => ⟨g, 0, rfl, by rw [Nat.zero_add]; exact ownS_cell h i hi⟩, rfl⟩
set_option maxRecDepth 100000 in
theorem append_row (w : World) (B : Nat) (v : Value) (l k : List (List UInt8)) (a : Option Addr) (n c : Nat) (hown : OwnS w B v l) (hk : Row w a k) (hn : n = k.length) (hB : B ≤ w.heap.size) (hsz : (l.length + k.length) * 16 ≤ 140737488355328) :
    ∃ v' w', (Builtin.append_ #[36, 36] 36 #[v, .slice a n c]).run Tryz.prog w = .ok v' w' ∧ OwnS w' B v' (l ++ k) ∧ Below B w w' := by
  subst hn
  obtain ⟨i0, hi, hz0, hz1, hz2⟩ := info_parts info_str
  by_cases h0 : k.length = 0
  · have hk0 := List.eq_nil_of_length_eq_zero h0
    subst hk0
    refine ⟨v, w, ?_, by rw [List.append_nil]; exact hown, Below.refl _ _⟩
    cases a with
    | none =>
      rcases ownS_formD hown with ⟨rfl, rfl⟩ | ⟨g, cap, rfl, hc, _⟩
      · simp [Builtin.append_, run_underlying Tryz.underlying36, sizeOf, typeInfo, hi, Builtin.lenOf, Builtin.firstCells]
      · simp [Builtin.append_, run_underlying Tryz.underlying36, sizeOf, typeInfo, hi, Builtin.lenOf, Builtin.firstCells, hc, storeCells]
    | some d =>
      rcases ownS_formD hown with ⟨rfl, rfl⟩ | ⟨g, cap, rfl, hc, _⟩
      · simp [Builtin.append_, run_underlying Tryz.underlying36, sizeOf, typeInfo, hi, Builtin.lenOf, Builtin.firstCells, loadCells, loadCellsFrom]
      · simp [Builtin.append_, run_underlying Tryz.underlying36, sizeOf, typeInfo, hi, Builtin.lenOf, Builtin.firstCells, loadCells, loadCellsFrom, hc, storeCells]
  · obtain ⟨b, off, rfl, _⟩ := hk 0 (by omega)
    have hnews : ∀ j u, (sv k)[j]? = some u → w.cell? ((⟨b, off, none⟩ : Addr).add j) = some u := by
      intro j u hj
      have hjn : j < k.length := by
        rcases Nat.lt_or_ge j k.length with h' | h'
        · exact h'
        · rw [List.getElem?_eq_none (by rw [sv_len]; exact h')] at hj; cases hj
      obtain ⟨b', off', e, hc⟩ := hk j hjn
      injection e with e
      injection e with e1 e2
      subst e1 e2
      rw [add_off, hc, ← hj]
      simp [sv, hjn]
    obtain ⟨g, cap, w', hr, h2, h3, _, _⟩ := run_append_lies (P := Tryz.prog) w 36 36 B 9 i0 _ 1 16 Tryz.underlying36 hi hz0 hz1 hz2 rfl (by decide) v l.length (sv l) hown ⟨b, off, none⟩ k.length c (sv k) (by rw [sv_len, Nat.mul_one]) hnews (sv_one _) (by omega) (by unfold maxLen; omega) hsz hB w.heap.size rfl
    refine ⟨_, w', hr, ?_, (Below.refl _ _).grown h3 hB (fun j hj => (World.ownsRow.lt (show w.ownsRow B 9 1 v l.length (sv l) from hown) _ hj).1)⟩
    unfold OwnS
    rw [sv_app, List.length_append]
    exact h2
end Go.Proofs.YtkknenmpdimdbaaGreatDoor

namespace Go.Proofs.YtkknenmpdimdbaaGreatDoor
open Go.RowKit
open DnMath (Tot lx tb tt ck tb_tot tt_tot ck_tot less_tt lx_front lx_between)
set_option linter.unusedVariables false

end Go.Proofs.YtkknenmpdimdbaaGreatDoor

namespace Go.Proofs.YtkknenmpdimdbaaGreatDoor
open Go.RowKit
open DnMath (Tot lx tb tt ck tb_tot tt_tot ck_tot less_tt lx_front lx_between)
set_option linter.unusedVariables false

end Go.Proofs.YtkknenmpdimdbaaGreatDoor

namespace Go.Proofs.YtkknenmpdimdbaaGreatDoor
open Go.RowKit
open DnMath (Tot lx tb tt ck tb_tot tt_tot ck_tot less_tt lx_front lx_between)
set_option linter.unusedVariables false

/-- A list that has just been laid, without a text in it. -/
theorem own_empty (w : World) : OwnS (w.alloc (.cells #[] 9)) w.heap.size (.slice (some ⟨w.heap.size, 0, none⟩) 0 0) [] :=
  ⟨rfl, Or.inr ⟨w.heap.size, 0, #[], rfl, Nat.le_refl _, heap_alloc_new w _, Nat.le_refl _, by unfold maxLen; omega, rfl, rfl⟩⟩

end Go.Proofs.YtkknenmpdimdbaaGreatDoor

namespace Go.Proofs.YtkknenmpdimdbaaGreatDoor
namespace Ke
open Go.RowKit
open TextMath (fold lo normal check)
open Du (PRow pV pV_len prow_at)
set_option linter.unusedVariables false
set_option linter.unusedSimpArgs false
set_option maxRecDepth 100000

/-- The four reasons that the keys' refusals tell lie there. -/
def ErrsG (W : World) : Prop := ∃ t0 e0 t1 e1 t2 e2 t3 e3, W.cell? ⟨8, 0, none⟩ = some (.iface t0 e0) ∧ W.cell? ⟨9, 0, none⟩ = some (.iface t1 e1) ∧ W.cell? ⟨7, 0, none⟩ = some (.iface t2 e2) ∧ W.cell? ⟨1, 0, none⟩ = some (.iface t3 e3)
theorem ErrsG.below {W W' : World} (h : ErrsG W) (hb : Below W.heap.size W W') : ErrsG W' := by
  obtain ⟨t0, e0, t1, e1, t2, e2, t3, e3, h0, h1, h2, h3⟩ := h
  exact ⟨t0, e0, t1, e1, t2, e2, t3, e3, (hb.cell (World.block_lt_of_cell? W _ h0)).trans h0, (hb.cell (World.block_lt_of_cell? W _ h1)).trans h1, (hb.cell (World.block_lt_of_cell? W _ h2)).trans h2, (hb.cell (World.block_lt_of_cell? W _ h3)).trans h3⟩
theorem contains_any (l : List (List UInt8)) (x : List UInt8) (a : Option Addr) (c n : Nat) (w : World) (h : Row w a l) (hn : l.length = n) (hl : n ≤ 4194304) :
    Calls Tryz.prog 69 #[.slice a n c, .string (S x)] w fun r w' => r = .returned (.bool (decide (x ∈ l))) ∧ w' = w := by
  subst hn
  by_cases h0 : l.length = 0
  · have := List.eq_nil_of_length_eq_zero h0
    subst this
    have h := Tryz.slices_Contains_string_empty a c (S x) w
    simpa using h
  · obtain ⟨g, o, rfl, _⟩ := h 0 (by omega)
    have hk := Tryz.slices_Contains_string g o l.length c (l.map S) (S x) w (by simp) (by omega) (fun j hj => by
      have hj' : j < l.length := by simpa using hj
      obtain ⟨g', o', e, hc⟩ := h j hj'
      injection e with e
      injection e with e1 e2
      subst e1 e2
      rw [hc]
      simp [List.getD, hj'])
    have e : Lib.containsS ((l.map S).take l.length) (S x) = decide (x ∈ l) := by
      rw [List.take_of_length_le (by simp), Bool.eq_iff_iff, Lib.containsS_iff]
      simp
      constructor
      · rintro ⟨y, hy, e⟩
        have := S_inj _ _ e
        rw [← this]
        exact hy
      · intro hx
        exact ⟨x, hx, rfl⟩
    rw [e] at hk
    exact hk
theorem parse_ty (t : List UInt8) (w : World) (ht : t.length ≤ 140737488355328) :
    Calls Tryz.prog 51 #[.string (S t)] w fun e w' => (∃ m : Nat, e = .returned (.tuple #[.string (S (tyC t)), .int .i64 (if tyOk t = true then 0 else 40), .int .i64 (m : Int)])) ∧ Below w.heap.size w w' := by
  refine (parseType_any (S t) w (by rw [S_size]; exact ht)).mono ?_
  rintro e w' ⟨rfl, hb⟩
  rw [S_l]
  refine ⟨⟨(tyR t).2.2, ?_⟩, hb⟩
  rw [← tyR_er]
  unfold tyC tyR
  rw [S_of]
theorem check_ty (v : List UInt8) (w : World) (ht : v.length ≤ 140737488355328) :
    Calls Tryz.prog 29 #[.string (S v)] w fun e w' => (∃ m : Nat, e = .returned (.tuple #[.int .i64 (if utf v = true then 0 else 10), .int .i64 (m : Int)])) ∧ w' = w := by
  refine (check_any (S v) w (by rw [S_size]; unfold maxLen; omega)).mono ?_
  rintro e w' ⟨rfl, rfl⟩
  rw [S_l]
  exact ⟨⟨(check v).2, rfl⟩, rfl⟩
theorem row_one (w : World) (x : List UInt8) : Row (w.alloc (.cells #[.string (S x)] 9)) (some ⟨w.heap.size, 0, none⟩) [x] := fun i hi => by
  have h0 : i = 0 := by simp at hi; omega
  subst h0
  exact ⟨_, _, rfl, cell_one_new _ _ _ 0 _ rfl⟩
theorem below_drew (w : World) (B : Nat) : Below B w w.drew := ⟨rfl, rfl, rfl, Nat.le_refl _, fun _ _ => rfl⟩
/-- What canonicalTypes answers. -/
def CanQ (w : World) (ps : List PR) (num : Int) (n : Nat) (e : Ending) (w' : World) : Prop :=
  Below w.heap.size w w' ∧ ((num < 64 ∧ OkP ps ∧ ∃ ta tc, e = .returned (.tuple #[.slice ta n tc, .nilIface]) ∧ OwnS w' w.heap.size (.slice ta n tc) (ps.map fun p => tyC p.1)) ∨ (¬ (num < 64 ∧ OkP ps) ∧ ∃ t u, e = .returned (.tuple #[.slice none 0 0, .iface t u])))

set_option maxHeartbeats 4000000 in
theorem canonical_types (a : Option Addr) (c n : Nat) (ps : List PR) (num : Int) (w : World) (hG : ErrsG w) (hn : ps.length = n) (hr : PRow w a ps) (hz : ∀ p ∈ ps, p.1.length + p.2.length ≤ 140737488355328) (hnb : n ≤ 140737488355328) :
    Calls Tryz.prog 39 #[.slice a n c, .int .i64 num] w fun e w' => CanQ w ps num n e w' := by
  have nb : (n : Int) ≤ 140737488355328 := by omega
  have n0 : (0 : Int) ≤ (n : Int) := by omega
  have hn' : Hid (ps.length = n) := hn
  have hr' : Hid (PRow w a ps) := hr
  have hz' : Hid (∀ p ∈ ps, p.1.length + p.2.length ≤ 140737488355328) := hz
  have hG' : Hid (ErrsG w) := hG
  clear hr hz
  by_cases h64 : (64 : Int) ≤ num
  · obtain ⟨t0, e0, t1, e1, t2, e2, t3, e3, g0, g1, g2, g3⟩ := hG
    have hno : Hid (¬ (num < 64 ∧ OkP ps)) := fun h => by omega
    clear hn hG' hr' hz' hn'
    go_enter Tryz.func39, Tryz.ntmps39
    go_wp2_with fail
    go_region
    go_wp2_with fail
    go_ret2
    exact ⟨below_drew _ _, Or.inr ⟨hno.out, _, _, rfl⟩⟩
  · by_cases hz0 : n = 0
    · subst hz0
      obtain ⟨t0, e0, t1, e1, t2, e2, t3, e3, g0, g1, g2, g3⟩ := hG
      have hno : Hid (¬ (num < 64 ∧ OkP ps)) := fun h => by have := h.2.1; omega
      clear hn hG' hr' hz' hn'
      go_enter Tryz.func39, Tryz.ntmps39
      go_wp2_with fail
      go_region
      go_wp2_with fail
      go_ret2
      exact ⟨below_drew _ _, Or.inr ⟨hno.out, _, _, rfl⟩⟩
    · have nz : ¬ ((n : Int) = 0) := by omega
      by_cases hz8 : 8 < n
      · have n8 : (8 : Int) < (n : Int) := by omega
        obtain ⟨t0, e0, t1, e1, t2, e2, t3, e3, g0, g1, g2, g3⟩ := hG
        have hno : Hid (¬ (num < 64 ∧ OkP ps)) := fun h => by have := h.2.2.1; omega
        clear hn hG' hr' hz' hn'
        go_enter Tryz.func39, Tryz.ntmps39
        go_wp2_with fail
        go_region
        go_wp2_with fail
        go_ret2
        exact ⟨below_drew _ _, Or.inr ⟨hno.out, _, _, rfl⟩⟩
      · have n8 : ¬ (8 : Int) < (n : Int) := by omega
        have hlo : Hid (1 ≤ n ∧ n ≤ 8 ∧ num < 64) := ⟨by omega, by omega, by omega⟩
        clear hG hn hnb hz0 hz8
        go_enter Tryz.func39, Tryz.ntmps39
        go_wp2_with fail
        go_loopw [6, 39] (fun tv iv wr => ∃ (k : Nat) (ta : Option Addr) (tc : Nat), k ≤ n ∧ iv = .int .i64 (k : Int) ∧ tv = .slice ta k tc ∧ Hid ((∀ j, j < k → OkI ps j) ∧ OwnS wr w.heap.size (.slice ta k tc) ((ps.take k).map fun p => tyC p.1) ∧ Below w.heap.size w wr)) (fun _ iv _ => n - (intOf iv).toNat)
        case atStart => exact ⟨0, none, 0, Nat.zero_le _, rfl, rfl, fun j hj => by omega, ownS_nil _ _, Below.refl _ _⟩
        case round =>
          obtain ⟨k, ta, tc, hk, rfl, rfl, hR⟩ := hrel
          have k0 : (0 : Int) ≤ (k : Int) := Int.natCast_nonneg _
          by_cases hlt : k < n
          · have k1 : (k : Int) < (n : Int) := Int.ofNat_lt.2 hlt
            have hkP : k < ps.length := by rw [hn'.out]; exact hlt
            obtain ⟨pb, po, rfl, c3, c4⟩ := prow_at (hr'.out.below pV_len hR.out.2.2) k hkP
            have hzk := hz'.out _ (List.getElem_mem hkP)
            have hIk : Hid (tyOk ps[k].1 = true → tyC ps[k].1 ∉ (ps.take k).map (fun p => tyC p.1) → utf ps[k].2 = true → OkI ps k) := fun h1 h2 h3 => ⟨hkP, h1, h2, h3⟩
            have hIn : Hid (OkP ps → tyOk ps[k].1 = true ∧ tyC ps[k].1 ∉ (ps.take k).map (fun p => tyC p.1) ∧ utf ps[k].2 = true) := fun h => by obtain ⟨_, h1, h2, h3⟩ := h.2.2 k hkP; exact ⟨h1, h2, h3⟩
            have hsn : Hid ((ps.take (k + 1)).map (fun p => tyC p.1) = (ps.take k).map (fun p => tyC p.1) ++ [tyC ps[k].1]) := by unfold Hid; rw [List.take_succ_eq_append_getElem hkP, List.map_append]; rfl
            generalize ps[k] = p at *
            obtain ⟨t, v⟩ := p
            dsimp only at c3 c4 hzk hIk hIn hsn
            generalize hT : (ps.take k).map (fun p => tyC p.1) = T at *
            have hTl : Hid (T.length = k) := by unfold Hid; rw [← hT, List.length_map, List.length_take]; omega
            obtain ⟨W1, hW1⟩ : ∃ W1, wr.alloc (.cells #[.string (S t), .string (S v)] 64) = W1 := ⟨_, rfl⟩
            have hb1 : Hid (Below wr.heap.size wr W1) := by unfold Hid; rw [← hW1]; exact (Below.refl _ _).alloc (Nat.le_refl _) _
            have hx1 : Hid (W1.heap[wr.heap.size]? = some (.cells #[.string (S t), .string (S v)] 64 (0, 0))) := by unfold Hid; rw [← hW1]; exact heap_alloc_new _ _
            have hP : Hid (Calls Tryz.prog 51 #[.string (S t)] W1 fun e w' => (∃ m : Nat, e = .returned (.tuple #[.string (S (tyC t)), .int .i64 (if tyOk t = true then 0 else 40), .int .i64 (m : Int)])) ∧ Below W1.heap.size W1 w') := parse_ty t W1 (by omega)
            have hC : Hid (∀ W, Row W ta T → Calls Tryz.prog 69 #[.slice ta k tc, .string (S (tyC t))] W fun r w' => r = .returned (.bool (decide (tyC t ∈ T))) ∧ w' = W) := fun W h => contains_any T (tyC t) ta tc k W h hTl.out (by have := hlo.out; omega)
            have hK : Hid (∀ W, Calls Tryz.prog 29 #[.string (S v)] W fun e w' => (∃ m : Nat, e = .returned (.tuple #[.int .i64 (if utf v = true then 0 else 10), .int .i64 (m : Int)])) ∧ w' = W) := fun W => check_ty v W (by omega)
            have hlt' : Hid (k < n) := hlt
            have hk8 : Hid (k ≤ 8) := by have := hlo.out; unfold Hid; omega
            obtain ⟨st, hst⟩ : ∃ st, S t = st := ⟨_, rfl⟩
            obtain ⟨sv', hsv⟩ : ∃ sv', S v = sv' := ⟨_, rfl⟩
            rw [hst] at c3 hW1 hx1 hP
            rw [hsv] at c4 hW1 hx1 hK
            clear hst hsv hzk hkP hlt hk
            have c1 : W1.cell? ⟨wr.heap.size, 0, none⟩ = some (.string st) := by rw [cell_of_row _ _ _ _ _ _ hx1.out]; rfl
            go_wp2_with fail
            refine hP.out.mono ?_
            rintro e W2 ⟨⟨m2, rfl⟩, hb2⟩
            have hb2' : Hid (Below W1.heap.size W1 W2) := hb2
            have hx2 : W2.heap[wr.heap.size]? = some (.cells #[.string st, .string sv'] 64 (0, 0)) := by rw [hb2.block _ (Array.getElem?_eq_some_iff.1 hx1.out).1]; exact hx1.out
            have c5 : W2.cell? ⟨wr.heap.size, 1, none⟩ = some (.string sv') := by rw [cell_of_row _ _ _ _ _ _ hx2]; rfl
            have hB2 : Hid (Below wr.heap.size wr W2) := hb1.out.trans (hb2.mono hb1.out.size)
            have hBw : Hid (Below w.heap.size w W2) := hR.out.2.2.trans (hB2.out.mono hR.out.2.2.size)
            have hG2 := hG'.out.below hBw.out
            have hO2 : Hid (OwnS W2 w.heap.size (.slice ta k tc) T) := ownS_below hR.out.2.1 hB2.out
            clear hb2 hx2 hP hx1 hb1 hb2' hB2
            obtain ⟨t0, e0, t1, e1, t2, e2, t3, e3, g0, g1, g2, g3⟩ := hG2
            by_cases hty : tyOk t = true
            · rw [if_pos hty]
              have hC2 : Hid (Calls Tryz.prog 69 #[.slice ta k tc, .string (S (tyC t))] W2 fun r w' => r = .returned (.bool (decide (tyC t ∈ T))) ∧ w' = W2) := hC.out W2 (ownS_row hO2.out).1
              by_cases hin : tyC t ∈ T
              · have hno : Hid (¬ (num < 64 ∧ OkP ps)) := fun h => (hIn.out h.2).2.1 hin
                rw [decide_eq_true hin] at hC2
                clear hIn hIk hC hin hty hR hO2 hsn hTl hT
                go_wp2_with (go_at_call 69; refine hC2.out.mono ?_; rintro e w' ⟨rfl, rfl⟩)
                go_region
                go_wp2_with fail
                go_ret2
                exact ⟨hBw.out.trans (below_drew _ _), Or.inr ⟨hno.out, _, _, rfl⟩⟩
              · rw [decide_eq_false hin] at hC2
                have hK2 : Hid (Calls Tryz.prog 29 #[.string sv'] W2 fun e w' => (∃ m : Nat, e = .returned (.tuple #[.int .i64 (if utf v = true then 0 else 10), .int .i64 (m : Int)])) ∧ w' = W2) := hK.out W2
                clear hC hK
                by_cases hut : utf v = true
                · rw [if_pos hut] at hK2
                  have hok : Hid (OkI ps k) := hIk.out hty hin hut
                  obtain ⟨v3, W3, e3', o3, b3⟩ := append_row (W2.alloc (.cells #[.string (S (tyC t))] 9)) w.heap.size (.slice ta k tc) T [tyC t] (some ⟨W2.heap.size, 0, none⟩) 1 1 (ownS_below hO2.out ((Below.refl _ _).alloc (Nat.le_refl _) _)) (row_one _ _) rfl (by have := hBw.out.size; simp; omega) (by have := hTl.out; have := hk8.out; simp; omega)
                  obtain ⟨ta', tc', rfl, _⟩ : ∃ ta' tc', v3 = .slice ta' (k + 1) tc' ∧ True := by
                    have hl3 : (T ++ [tyC t]).length = k + 1 := by rw [List.length_append, hTl.out]; rfl
                    rcases ownS_formD o3 with ⟨_, h0⟩ | ⟨g, cap, e, _⟩
                    · rw [h0] at hl3; simp at hl3
                    · exact ⟨_, _, by rw [e, hl3], trivial⟩
                  have hfin : Hid ((∀ j, j < k + 1 → OkI ps j) ∧ OwnS W3 w.heap.size (.slice ta' (k + 1) tc') ((ps.take (k + 1)).map fun p => tyC p.1) ∧ Below w.heap.size w W3) := by
                    refine ⟨fun j hj => ?_, by rw [hsn.out]; exact o3, (hBw.out.alloc hBw.out.size _).trans b3⟩
                    by_cases e : j = k
                    · rw [e]; exact hok.out
                    · exact hR.out.1 j (by omega)
                  clear o3 b3 hIn hIk hok hR hO2 hsn hTl hT hty hin hut hBw
                  go_wp2_with (first
                    | (go_at_call 69; refine hC2.out.mono ?_; rintro e w' ⟨rfl, rfl⟩)
                    | (go_at_call 29; refine hK2.out.mono ?_; rintro e w' ⟨⟨m3, rfl⟩, rfl⟩)
                    | (at_builtin; refine Lib.wpList_append_run _ rfl _ _ _ _ rfl _ _ rfl rfl _ _ e3' ?_; clear e3'))
                  go_roundw
                  case rel => exact ⟨k + 1, ta', tc', hlt'.out, by go_num, rfl, hfin⟩
                  case measure => have := hlt'.out; simp [intOf]; omega
                · rw [if_neg hut] at hK2
                  have hno : Hid (¬ (num < 64 ∧ OkP ps)) := fun h => hut (hIn.out h.2).2.2
                  clear hIn hIk hin hty hR hO2 hsn hTl hT hut
                  go_wp2_with (first
                    | (go_at_call 69; refine hC2.out.mono ?_; rintro e w' ⟨rfl, rfl⟩)
                    | (go_at_call 29; refine hK2.out.mono ?_; rintro e w' ⟨⟨m3, rfl⟩, rfl⟩))
                  go_region
                  go_wp2_with fail
                  go_ret2
                  exact ⟨hBw.out.trans (below_drew _ _), Or.inr ⟨hno.out, _, _, rfl⟩⟩
            · rw [if_neg hty]
              have hno : Hid (¬ (num < 64 ∧ OkP ps)) := fun h => hty (hIn.out h.2).1
              clear hIn hIk hC hK hty hR hO2 hsn hTl hT
              go_wp2_with fail
              go_region
              go_wp2_with fail
              go_ret2
              exact ⟨hBw.out.trans (below_drew _ _), Or.inr ⟨hno.out, _, _, rfl⟩⟩
          · have e : n = k := by omega
            subst e
            have i1 : ¬ (n : Int) < (n : Int) := by omega
            have hfin : Hid (CanQ w ps num n (.returned (.tuple #[.slice ta n tc, .nilIface])) wr) := by
              refine ⟨hR.out.2.2, Or.inl ⟨hlo.out.2.2, ⟨by rw [hn'.out]; exact hlo.out.1, by rw [hn'.out]; exact hlo.out.2.1, fun i hi => hR.out.1 i (by rw [← hn'.out]; exact hi)⟩, ta, tc, rfl, ?_⟩⟩
              have := hR.out.2.1
              rw [List.take_of_length_le (by rw [hn'.out]; exact Nat.le_refl _)] at this
              exact this
            clear hR hk hlt
            go_wp2_with fail
            go_ret2
            exact hfin.out
end Ke
end Go.Proofs.YtkknenmpdimdbaaGreatDoor
