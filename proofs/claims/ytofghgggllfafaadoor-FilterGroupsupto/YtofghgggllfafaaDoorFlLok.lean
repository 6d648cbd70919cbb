import Derived.Test.YtofghgggllfafaaDoorFlChM
import Derived.BigQuiet
namespace Go.Proofs.YtofghgggllfafaaDoor
open Go.RowKit
open TextMath
set_option linter.unusedVariables false

set_option maxRecDepth 100000 in
set_option maxHeartbeats 2000000 in
theorem follows_any (d1 o1 : Int) (s1 v1 i1 : ByteArray) (a1 : Option Addr) (m1 n1 : Nat) (f1 r1 : ByteArray) (b1 : Bool) (d2 o2 : Int) (s2 v2 i2 : ByteArray) (a2 : Option Addr) (m2 n2 : Nat) (f2 r2 : ByteArray) (b2 : Bool) (w : World) (h0 : 0 ≤ d2) (h64 : d2 ≤ 64) :
    Calls Tryd.prog 31 #[.agg #[.int .i64 d1, .int .i64 o1, .string s1, .string v1, .string i1, .slice a1 m1 n1, .string f1, .string r1, .bool b1], .agg #[.int .i64 d2, .int .i64 o2, .string s2, .string v2, .string i2, .slice a2 m2 n2, .string f2, .string r2, .bool b2]] w fun e w' => e = .returned (.bool (pf d1 d2 o2)) ∧ Below w.heap.size w w' := by
  obtain ⟨Wa, hWa⟩ : ∃ W, w.alloc (.cells #[.int .i64 d1, .int .i64 o1, .string s1, .string v1, .string i1, .slice a1 m1 n1, .string f1, .string r1, .bool b1] 38) = W := ⟨_, rfl⟩
  obtain ⟨Wb, hWb⟩ : ∃ W, Wa.alloc (.cells #[.int .i64 d2, .int .i64 o2, .string s2, .string v2, .string i2, .slice a2 m2 n2, .string f2, .string r2, .bool b2] 38) = W := ⟨_, rfl⟩
  have na : Wa.heap.size = w.heap.size + 1 := by rw [← hWa]; simp
  have p : Box Wb w.heap.size 38 (nB d1 o1 s1 v1 i1 a1 m1 n1 f1 r1 b1) := by rw [← hWb]; exact (show Box Wa w.heap.size 38 (nB d1 o1 s1 v1 i1 a1 m1 n1 f1 r1 b1) by rw [← hWa]; exact Box.new _ _ _).past _
  have q : Box Wb (w.heap.size + 1) 38 (nB d2 o2 s2 v2 i2 a2 m2 n2 f2 r2 b2) := by rw [← hWb, ← na]; exact Box.new _ _ _
  have hB : Hid (Below w.heap.size w Wb) := by
    unfold Hid
    rw [← hWb, ← hWa]
    exact ((Below.refl _ _).alloc (Nat.le_refl _) _).alloc (by simp) _
  rw [← hWa] at hWb
  obtain ⟨c0, c1, _⟩ := box_nineB p
  obtain ⟨e0, e1, _⟩ := box_nineB q
  have KH : Hid (Calls Tryd.prog 15 #[.int .i64 o2] Wb fun e w' => e = .returned (.bool (hol o2)) ∧ w' = Wb) := holds_any o2 Wb
  clear p q hWa na
  unfold pf
  by_cases hd : d1 = d2 + 1
  · rw [if_pos hd]
    subst hd
    go_enter Tryd.func31, Tryd.ntmps31
    go_upto_region 1 with fail
    clear hWb
    go_wp2_with (go_at_call 15; refine KH.out.mono ?_; rintro e u1 ⟨rfl, hu⟩; subst hu)
    all_goals go_ret
    all_goals exact ⟨rfl, hB.out⟩
  · rw [if_neg hd]
    go_enter Tryd.func31, Tryd.ntmps31
    go_upto_region 1 with fail
    clear hWb
    go_wp2_with fail
    all_goals go_ret
    all_goals (refine ⟨?_, hB.out⟩; clear hB KH c0 c1 e0 e1; first | (simp_all; done) | (simp_all; rw [Bool.eq_iff_iff]; simp_all; done) | (simp_all; omega))
/-- The checker's row of truths. -/
def NB (W : World) (h : Nat) (g : Nat → Bool) : Prop := ∃ cs, Box W h 49 cs ∧ ∀ j, j < 65 → cs[j]? = some (.bool (g j))
theorem NB.at {W : World} {h : Nat} {g : Nat → Bool} (hn : NB W h g) (j : Nat) (hj : j < 65) : W.cell? ⟨h, j, none⟩ = some (.bool (g j)) ∧ W.frozen? ⟨h, j, none⟩ = false := by
  obtain ⟨cs, hb, hc⟩ := hn
  have h1 := hc j hj
  have hjs : j < cs.size := (Array.getElem?_eq_some_iff.1 h1).1
  have h2 := hb.cell j hjs
  refine ⟨?_, h2.2⟩
  rw [h2.1]
  rw [Array.getElem?_eq_getElem hjs] at h1
  exact h1
theorem NB.below {W W' : World} {h : Nat} {g : Nat → Bool} (hn : NB W h g) (hb : Below W.heap.size W W') : NB W' h g := by
  obtain ⟨cs, h1, hc⟩ := hn
  exact ⟨cs, h1.below hb, hc⟩
def upd (g : Nat → Bool) (D : Nat) (t : Bool) : Nat → Bool := fun j => if j = D then t else g j
theorem NB.set {W : World} {h : Nat} {g : Nat → Bool} (hn : NB W h g) (D : Nat) (hD : D < 65) (t : Bool) : NB (W.setCell ⟨h, D, none⟩ (.bool t)) h (upd g D t) := by
  obtain ⟨cs, h1, hc⟩ := hn
  have hDs : D < cs.size := (Array.getElem?_eq_some_iff.1 (hc D hD)).1
  refine ⟨_, h1.set D (.bool t), fun j hj => ?_⟩
  rw [Array.getElem?_setIfInBounds]
  by_cases e : j = D
  · subst e
    simp [upd, hDs]
  · rw [if_neg (fun q => e q.symm)]
    simp only [upd, if_neg e]
    exact hc j hj
theorem NB.ext {W : World} {h : Nat} {g g' : Nat → Bool} (hn : NB W h g) (e : ∀ j, j < 65 → g j = g' j) : NB W h g' := by
  obtain ⟨cs, h1, hc⟩ := hn
  exact ⟨cs, h1, fun j hj => by rw [← e j hj]; exact hc j hj⟩
theorem S_sz {x : List UInt8} {n : Nat} (h : x.length ≤ n) : (S x).size ≤ n := by rw [S_size]; exact h
end Go.Proofs.YtofghgggllfafaaDoor
