import Derived.Test.YtdbhcemmaahemaaPkH
import Derived.Test.YtdbhcemmaahemaaPkI
namespace Go.Proofs.Ytdbhcemmaahemaa
namespace Pk
open Go.RowKit Go.Sort Go.Lib
open PgMath (Inc setOf cnt)
open PgHpM (Hd)
open PgCnM (occ)
set_option linter.unusedVariables false
set_option maxRecDepth 100000

/-- The lists made so far, each in a block of its own. -/
structure Md (W : World) (B : Nat) (vs : List Value) (Ls : List (List Int)) : Prop where
  len : vs.length = Ls.length
  own : ∀ j, j < vs.length → OwnI W B (vs.getD j undef) (Ls.getD j [])
  sep : ∀ i j, i < vs.length → j < vs.length → i ≠ j → ∀ g, (vs.getD i undef).ownBlock = some g → (vs.getD j undef).ownBlock ≠ some g
theorem Md.nil (W : World) (B : Nat) : Md W B [] [] := ⟨rfl, fun j h => (by cases h), fun i j h => (by cases h)⟩
theorem Md.below {W W' : World} {B : Nat} {vs : List Value} {Ls : List (List Int)} (h : Md W B vs Ls) (hb : Below W.heap.size W W') : Md W' B vs Ls := ⟨h.len, fun j hj => ownI_below (h.own j hj) hb, h.sep⟩
theorem Md.ch {ks : Nat → Prop} {W W' : World} {B : Nat} {vs : List Value} {Ls : List (List Int)} (h : Md W B vs Ls) (hc : Ch ks W W') (hk : ∀ j g, j < vs.length → (vs.getD j undef).ownBlock = some g → ¬ ks g) : Md W' B vs Ls := ⟨h.len, fun j hj => ownI_ch (h.own j hj) hc (fun g hg => hk j g hj hg), h.sep⟩
theorem Md.push {W W' : World} {B : Nat} {vs : List Value} {Ls : List (List Int)} {v : Value} {L : List Int} (h : Md W B vs Ls) (hb : Below W.heap.size W W') (hO : OwnI W' W.heap.size v L) (hB : B ≤ W.heap.size) : Md W' B (vs ++ [v]) (Ls ++ [L]) := by
  have hl := h.len
  have e1 : ∀ j, j < vs.length → (vs ++ [v]).getD j undef = vs.getD j undef := fun j hj => by simp [List.getD, List.getElem?_append_left hj]
  have e2 : (vs ++ [v]).getD vs.length undef = v := by simp [List.getD]
  have f1 : ∀ j, j < Ls.length → (Ls ++ [L]).getD j [] = Ls.getD j [] := fun j hj => by simp [List.getD, List.getElem?_append_left hj]
  have f2 : (Ls ++ [L]).getD vs.length [] = L := by rw [hl]; simp [List.getD]
  have lt : ∀ j g, j < vs.length → (vs.getD j undef).ownBlock = some g → g < W.heap.size := fun j g hj hg => (ownI_lt (h.own j hj) hg).2
  have ge : ∀ g, v.ownBlock = some g → W.heap.size ≤ g := fun g hg => (ownI_lt hO hg).1
  refine ⟨by simp [hl], fun j hj => ?_, fun i j hi hj hij g => ?_⟩
  · rw [List.length_append] at hj
    have hj' : j < vs.length + 1 := hj
    by_cases q : j < vs.length
    · rw [e1 j q, f1 j (by omega)]
      exact ownI_below (h.own j q) hb
    · have : j = vs.length := by omega
      subst this
      rw [e2, f2]
      exact ownI_base hO hB
  · rw [List.length_append] at hi hj
    have hi' : i < vs.length + 1 := hi
    have hj' : j < vs.length + 1 := hj
    by_cases qi : i < vs.length
    · rw [e1 i qi]
      by_cases qj : j < vs.length
      · rw [e1 j qj]
        exact h.sep i j qi qj hij g
      · have : j = vs.length := by omega
        subst this
        rw [e2]
        intro hg e
        have := lt i g qi hg
        have := ge g e
        omega
    · have : i = vs.length := by omega
      subst this
      rw [e2, e1 j (by omega)]
      intro hg e
      have := lt j g (by omega) e
      have := ge g hg
      omega
/-- The array of the lists. -/
def Arr (W : World) (ab : Nat) (vs : List Value) : Prop := ∃ cs, W.heap[ab]? = some (.cells cs 40 (0, 0)) ∧ ∀ j, j < vs.length → cs[j]? = some (vs.getD j undef)
theorem Arr.below {W W' : World} {ab : Nat} {vs : List Value} (h : Arr W ab vs) (hb : Below W.heap.size W W') : Arr W' ab vs := by
  obtain ⟨cs, h1, h2⟩ := h
  exact ⟨cs, (hb.block ab (Array.getElem?_eq_some_iff.1 h1).1).trans h1, h2⟩
theorem Arr.ch {ks : Nat → Prop} {W W' : World} {ab : Nat} {vs : List Value} (h : Arr W ab vs) (hc : Ch ks W W') (hk : ¬ ks ab) : Arr W' ab vs := by
  obtain ⟨cs, h1, h2⟩ := h
  exact ⟨cs, (hc.2.2.2.2 ab (Array.getElem?_eq_some_iff.1 h1).1 hk).trans h1, h2⟩
theorem Arr.cell {W : World} {ab j : Nat} {vs : List Value} (h : Arr W ab vs) (hj : j < vs.length) : W.cell? ⟨ab, j, none⟩ = some (vs.getD j undef) := by
  obtain ⟨cs, h1, h2⟩ := h
  rw [cell_of_row W ab j cs _ _ h1]
  exact h2 j hj
theorem Arr.lt {W : World} {ab : Nat} {vs : List Value} (h : Arr W ab vs) : ab < W.heap.size := by
  obtain ⟨cs, h1, h2⟩ := h
  exact (Array.getElem?_eq_some_iff.1 h1).1
theorem arr_ne {W : World} {ab B g : Nat} {vs : List Value} {v : Value} {L : List Int} (h : Arr W ab vs) (hO : OwnI W B v L) : v.ownBlock ≠ some ab := fun e => by
  obtain ⟨cs, h1, h2⟩ := h
  rcases hO with ⟨_, ⟨rfl, _⟩ | ⟨g', cap, cur, rfl, _, h4, _⟩⟩
  · cases e
  · have e' : g' = ab := by simpa [Value.ownBlock] using e
    subst e'
    rw [h1] at h4
    injection h4 with h4
    injection h4 with _ h4
    exact absurd h4 (by decide)
/-- How it stands within a round, from the k-th list on. -/
structure Rk (w2 : World) (B k ab c0 : Nat) (vs : List Value) (Ls : List (List Int)) (bv : Value) (bs : List KE) (W : World) : Prop where
  bel : Below w2.heap.size w2 W
  kbk : KB W w2.heap.size bv bs
  len : bs.length = 2 * (c0 + k)
  left : ∀ j, k ≤ j → j < 10 → OwnI W B (vs.getD j undef) (Ls.getD j []) ∧ ∀ g, (vs.getD j undef).ownBlock = some g → Free bv bs g
  arr : Arr W ab vs
  fab : Free bv bs ab
theorem Rk.step {w2 W W' W6 : World} {B k ab c0 n t : Nat} {vs : List Value} {Ls : List (List Int)} {bv bv' l more : Value} {bs : List KE} (h : Rk w2 B k ab c0 vs Ls bv bs W) (hk : k < 10) (hB : w2.heap.size ≤ B) (hlB : ∀ g, l.ownBlock = some g → B ≤ g)
    (hsep : ∀ j, j < 10 → j ≠ k → ∀ g, (vs.getD j undef).ownBlock = some g → l.ownBlock ≠ some g) (hlab : l.ownBlock ≠ some ab)
    (hc : Ch (fun g => l.ownBlock = some g) W W') (hc6 : Ch (fun g => l.ownBlock = some g ∨ bv.ownBlock = some g) W' W6) (hK6 : KB W6 w2.heap.size bv' (bs ++ [(l, mkI t, n), (more, mkI t, n + 1)]))
    (hF : ∀ g, g < W'.heap.size → l.ownBlock ≠ some g → Free bv bs g → Free bv' (bs ++ [(l, mkI t, n), (more, mkI t, n + 1)]) g) :
    Rk w2 B (k + 1) ab c0 vs Ls bv' (bs ++ [(l, mkI t, n), (more, mkI t, n + 1)]) W6 := by
  have hs := hc.2.2.2.1
  have hab := h.arr.lt
  refine ⟨?_, hK6, by rw [List.length_append, h.len]; simp; omega, fun j hj hj3 => ?_, ?_, ?_⟩
  · have b1 : Below w2.heap.size W W' := hc.below h.bel.size (fun g q => by have := hlB g q; omega)
    refine (h.bel.trans b1).trans (hc6.below (by have := h.bel.size; omega) (fun g q => ?_))
    rcases q with q | q
    · have := hlB g q; omega
    · exact (ownB_lt h.kbk.book q).1
  · obtain ⟨hO, hf⟩ := h.left j (by omega) hj3
    have hd := hsep j hj3 (by omega)
    refine ⟨ownI_ch (ownI_ch hO hc (fun g hg q => hd g hg q)) hc6 (fun g hg q => ?_), fun g hg => ?_⟩
    · rcases q with q | q
      · exact hd g hg q
      · exact (hf g hg).1 q
    · exact hF g (by have := (ownI_lt hO hg).2; omega) (fun q => hd g hg q) (hf g hg)
  · refine (h.arr.ch hc (fun q => hlab q)).ch hc6 (fun q => ?_)
    rcases q with q | q
    · exact hlab q
    · exact h.fab.1 q
  · exact hF ab (by omega) hlab h.fab
end Pk
end Go.Proofs.Ytdbhcemmaahemaa
