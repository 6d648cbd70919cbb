import Derived.Test.YtdbhcemmaahemaaPkS
namespace Go.Proofs.Ytdbhcemmaahemaa
namespace Pk
open Go.RowKit Go.Sort Go.Lib
open PgMath (Inc setOf cnt)
open PgHpM (Hd)
open PgCnM (occ)
set_option linter.unusedVariables false
set_option maxRecDepth 100000

theorem Arr.set {W : World} {ab j : Nat} {vs : List Value} (h : Arr W ab vs) (v : Value) (hj : j < vs.length) : Arr (W.setCell ⟨ab, j, none⟩ v) ab (vs.set j v) := by
  obtain ⟨cs, h1, h2⟩ := h
  refine ⟨_, Go.heap_setCell_same _ _ _ _ _ _ h1, fun i hi => ?_⟩
  rw [List.length_set] at hi
  have h3 := h2 i hi
  have h4 := (Array.getElem?_eq_some_iff.1 h3).1
  by_cases e : j = i
  · subst e
    simp [h4, List.getD, hi]
  · rw [Array.getElem?_setIfInBounds_ne e, h3]
    simp [List.getD, List.getElem?_set_ne e]
theorem Arr.free {W : World} {ab : Nat} {vs : List Value} (h : Arr W ab vs) (j : Nat) : W.frozen? ⟨ab, j, none⟩ = false := by
  obtain ⟨cs, h1, h2⟩ := h
  simp [World.frozen?, h1]
/-- How it stands, while the last four lists are made. -/
structure Rs (WB : World) (B ab : Nat) (vs ms : List Value) (Ls : List (List Int)) (W : World) : Prop where
  ch : Ch (fun g => g = ab) WB W
  arr : Arr W ab vs
  md : Md W B ms Ls
theorem Rs.below {WB W W' : World} {B ab : Nat} {vs ms : List Value} {Ls : List (List Int)} (h : Rs WB B ab vs ms Ls W) (hb : Below W.heap.size W W') : Rs WB B ab vs ms Ls W' := ⟨h.ch.trans (Ch.of_below hb), h.arr.below hb, h.md.below hb⟩
theorem Rs.push {WB W W' : World} {B ab : Nat} {vs ms : List Value} {Ls : List (List Int)} {v : Value} {L : List Int} (h : Rs WB B ab vs ms Ls W) (hb : Below W.heap.size W W') (hO : OwnI W' W.heap.size v L) (hB : B ≤ WB.heap.size) (j : Nat) (hj : j < vs.length) :
    W'.cell? ⟨ab, j, none⟩ = some (vs.getD j undef) ∧ W'.frozen? ⟨ab, j, none⟩ = false ∧ Rs WB B ab (vs.set j v) (ms ++ [v]) (Ls ++ [L]) (W'.setCell ⟨ab, j, none⟩ v) := by
  have ha := h.arr.below hb
  have hm := h.md.push hb hO (Nat.le_trans hB h.ch.2.2.2.1)
  refine ⟨ha.cell hj, ha.free j, (h.ch.trans (Ch.of_below hb)).put ab j v rfl, ha.set v hj, hm.ch (Ch.set (ks := fun g => g = ab) W' ⟨ab, j, none⟩ v rfl) (fun i g hi hg e => ?_)⟩
  subst e
  exact arr_ne (g := g) ha (hm.own i hi) hg
theorem Rs.rk {WB wo w2 W : World} {ab c0 : Nat} {vs : List Value} {Ls : List (List Int)} {bv : Value} {bs : List KE} (h : Rs WB wo.heap.size ab vs vs Ls W) (hl : vs.length = 10) (hbo : Below wo.heap.size wo W) (hbl : Below w2.heap.size w2 W) (hK : KB wo w2.heap.size bv bs) (hlen : bs.length = 2 * c0) (hab : wo.heap.size ≤ ab) : Rk w2 wo.heap.size 0 ab c0 vs Ls bv bs W :=
  ⟨hbl, hK.below hbo, by omega, fun j _ hj => ⟨h.md.own j (by omega), fun g hg => hK.free ((ownI_lt (h.md.own j (by omega)) hg).1)⟩, h.arr, hK.free hab⟩
theorem srow_ch {ks : Nat → Prop} {w w' : World} {a : Option Addr} {l : List Hd} (h : SRow w a l) (hc : Ch ks w w') (hk : ∀ b off, a = some ⟨b, off, none⟩ → ¬ ks b) : SRow w' a l := fun i hi => by
  obtain ⟨b, off, e, h0⟩ := h i hi
  have hlt : b < w.heap.size := World.block_lt_of_cell? w _ h0
  exact ⟨b, off, e, by rw [World.cell?_of_block (w := w) (hc.2.2.2.2 b hlt (hk b off e))]; exact h0⟩
theorem Rs.bel {WB W w2 : World} {B ab : Nat} {vs ms : List Value} {Ls : List (List Int)} (h : Rs WB B ab vs ms Ls W) (hb : Below w2.heap.size w2 WB) (ha : w2.heap.size ≤ ab) : Below w2.heap.size w2 W := hb.trans (h.ch.below hb.size (fun k e => by have e' : k = ab := e; omega))
/-- The reference's answers. -/
def L4 (W : World) (sa : Option Addr) (Ss : List Hd) : Prop := SRow W sa Ss ∧ Lk W Ss
theorem L4.below {W W' : World} {sa : Option Addr} {Ss : List Hd} (h : L4 W sa Ss) (hb : Below W.heap.size W W') : L4 W' sa Ss := ⟨h.1.below hb, h.2.below hb⟩
theorem ratl4 (kk : Int) (sa : Option Addr) (Ss : List Hd) (sc : Nat) (W : World) (h : L4 W sa Ss) :
    Calls Try.prog 27 #[.int .i64 kk, .slice sa Ss.length sc] W fun e w' => ∃ a c, e = .returned (.slice a (aL (lsts Ss) kk).length c) ∧ Rd w' a c (aL (lsts Ss) kk) ∧ Below W.heap.size W w' := by
  have hb := h.2.2
  refine (rAtLeast_any kk sa Ss sc W h.1 h.2.1 (by omega)).mono ?_
  rintro e w' ⟨v, M, rfl, hO, hM, hb'⟩
  have e := atl_uniq hM
  subst e
  obtain ⟨a, n, c, rfl⟩ := ownI_slice hO
  obtain ⟨_, rfl⟩ := ownI_row hO
  have := aL_len (lsts Ss) kk
  exact ⟨a, c, rfl, Rd.of_own hO (by omega), hb'⟩
theorem rmeet4 (sa : Option Addr) (h : Hd) (T : List Hd) (sc : Nat) (W : World) (hl : L4 W sa (h :: T)) :
    Calls Try.prog 28 #[.slice sa (h :: T).length sc] W fun e w' => ∃ a c, e = .returned (.slice a (aL (lsts (h :: T)) ((h :: T).length : Nat)).length c) ∧ Rd w' a c (aL (lsts (h :: T)) ((h :: T).length : Nat)) ∧ Below W.heap.size W w' := by
  have hA := ratl4 ((h :: T).length : Nat) sa (h :: T) sc W hl
  have n0 : (((h :: T).length : Int) == 0) = false := by simp only [List.length_cons]; simp; omega
  have nb : ((h :: T).length : Int) ≤ 4194304 := by have := hl.2.2; omega
  generalize aL (lsts (h :: T)) ((h :: T).length : Nat) = M at *
  generalize (h :: T).length = n at *
  clear hl
  go_enter Try.func28, Try.ntmps28
  go_wp2_with (go_at_call 27; refine hA.mono ?_; rintro e w1 ⟨a1, c1, rfl, hr1, hb1⟩)
  go_ret
  exact ⟨a1, c1, rfl, hr1, hb1⟩
def Gd (L : List Int) (a : Option Addr) (n c : Nat) (W : World) : Prop := n = L.length ∧ Rd W a c L
theorem refA (k : Int) (W : World) (sa : Option Addr) (Ss : List Hd) (sc : Nat) (h : L4 W sa Ss) : ∀ W', Below W.heap.size W W' → Calls Try.prog 27 #[.int .i64 k, .slice sa Ss.length sc] W' fun e w' => ∃ a n c, e = .returned (.slice a n c) ∧ Gd (aL (lsts Ss) k) a n c w' ∧ Below W'.heap.size W' w' := fun W' hb => by
  refine (ratl4 k sa Ss sc W' (h.below hb)).mono ?_
  rintro e w' ⟨a, c, rfl, hr, hb'⟩
  exact ⟨a, _, c, rfl, ⟨rfl, hr⟩, hb'⟩
theorem refM (W : World) (sa : Option Addr) (x : Hd) (T : List Hd) (sc : Nat) (h : L4 W sa (x :: T)) : ∀ W', Below W.heap.size W W' → Calls Try.prog 28 #[.slice sa (x :: T).length sc] W' fun e w' => ∃ a n c, e = .returned (.slice a n c) ∧ Gd (aL (lsts (x :: T)) ((x :: T).length : Nat)) a n c w' ∧ Below W'.heap.size W' w' := fun W' hb => by
  refine (rmeet4 sa x T sc W' (h.below hb)).mono ?_
  rintro e w' ⟨a, c, rfl, hr, hb'⟩
  exact ⟨a, _, c, rfl, ⟨rfl, hr⟩, hb'⟩
theorem refN (W : World) (a : Option Addr) (l : List Int) (c : Nat) (b : Option Addr) (k : List Int) (d : Nat) (h1 : Rd W a c l) (h2 : Rd W b d k) (n1 : l.length ≤ 4194304) (n2 : k.length ≤ 4194304) : ∀ W', Below W.heap.size W W' → Calls Try.prog 29 #[.slice a l.length c, .slice b k.length d] W' fun e w' => ∃ a n c, e = .returned (.slice a n c) ∧ Gd (mns (setOf l) (setOf k)) a n c w' ∧ Below W'.heap.size W' w' := fun W' hb => by
  refine (rminus_call a l c b k d W' (h1.below hb) (h2.below hb) n1 n2).mono ?_
  rintro e w' ⟨a, c, rfl, hr, hb'⟩
  exact ⟨a, _, c, rfl, ⟨rfl, hr⟩, hb'⟩
theorem samG (L : List Int) (W : World) (a6 : Option Addr) (c6 : Nat) (h : Rd W a6 c6 L) : ∀ W' a n c, Below W.heap.size W W' → Gd L a n c W' → Calls Try.prog 26 #[.slice a6 L.length c6, .slice a n c] W' fun e w' => e = .returned (.bool true) ∧ Below W'.heap.size W' w' := fun W' a n c hb hg => by
  obtain ⟨rfl, hr⟩ := hg
  exact same_yes L L a6 a c6 c W' (h.below hb) hr rfl
end Pk
end Go.Proofs.Ytdbhcemmaahemaa
