import Derived.Test.YthpfnajgbocpnaaPtRMt
import Derived.Test.YthpfnajgbocpnaaPtCtC
namespace Go.Proofs.Ythpfnajgbocpnaa
namespace Pt
open Go.RowKit Go.Sort Go.Lib
open PtMath (Inc setOf cnt)
open PtHpM (Hd)
open PtCnM (occ)
set_option linter.unusedVariables false
set_option maxRecDepth 100000
open PtT (Rk TB en)
variable {Tk : PtT.Rk}

theorem ratl_call (kk : Int) (sa : Option Addr) (Ss : List Hd) (sc : Nat) (W : World) (h : LL Tk W sa Ss) :
    Calls Try.prog 10 #[.int .i64 kk, .slice sa Ss.length sc] W fun e w' => ∃ a c, e = .returned (.slice a (aL (lsts Ss) kk).length c) ∧ Rd Tk w' a c (aL (lsts Ss) kk) ∧ Below W.heap.size W w' := by
  have hb := h.2.2
  refine (rAtLeast_any kk sa Ss sc W h.1 h.2.1 (by omega)).mono ?_
  rintro e w' ⟨v, M, rfl, hO, hM, hb'⟩
  have e := atl_uniq hM
  subst e
  obtain ⟨a, n, c, rfl⟩ := ownI_slice hO
  obtain ⟨_, rfl⟩ := ownI_row hO
  have := aL_len (lsts Ss) kk
  exact ⟨a, c, rfl, Rd.of_own hO (by omega), hb'⟩
/-- What stands in all of the lists; of none nothing. -/
def mL (D : List (List Nat)) : List Nat := if D = [] then [] else aL D (D.length : Int)
theorem mL_nil : mL [] = [] := by simp [mL]
theorem mL_cons (h : Hd) (T : List Hd) : mL (lsts (h :: T)) = aL (lsts (h :: T)) ((h :: T).length : Nat) := by
  have e : (lsts (h :: T)).length = (h :: T).length := by simp [lsts]
  unfold mL
  rw [if_neg (by simp [lsts]), e]
theorem meet_both (sa : Option Addr) (Ss : List Hd) (sc : Nat) (W : World) (hl : LL Tk W sa Ss) (hc : Ss.length ≤ sc) :
    Calls Try.prog 11 #[.slice sa Ss.length sc] W fun e w' => ∃ a c, e = .returned (.slice a (mL (lsts Ss)).length c) ∧ Rd Tk w' a c (mL (lsts Ss)) ∧ Below W.heap.size W w' := by
  cases Ss with
  | nil =>
    refine Calls.mono (meet_none sa sc W) ?_
    rintro e w' ⟨rfl, rfl⟩
    have e : mL (lsts []) = [] := mL_nil
    rw [e]
    exact ⟨none, 0, rfl, rd_nil0 _, Below.refl _ _⟩
  | cons h T =>
    rw [mL_cons]
    exact meet_call sa h T sc W hl hc
theorem rmeet_both (sa : Option Addr) (Ss : List Hd) (sc : Nat) (W : World) (hl : LL Tk W sa Ss) :
    Calls Try.prog 12 #[.slice sa Ss.length sc] W fun e w' => ∃ a c, e = .returned (.slice a (mL (lsts Ss)).length c) ∧ Rd Tk w' a c (mL (lsts Ss)) ∧ Below W.heap.size W w' := by
  cases Ss with
  | nil =>
    have e0 : mL (lsts []) = [] := mL_nil
    rw [e0]
    have hR : Hid (Rd Tk W none 0 []) := rd_nil0 W
    clear hl e0
    go_enter Try.func12, Try.ntmps12
    go_wp2_with fail
    go_ret
    exact ⟨none, 0, rfl, hR.out, Below.refl _ _⟩
  | cons h T =>
    rw [mL_cons]
    have hA := ratl_call ((h :: T).length : Nat) sa (h :: T) sc W hl
    have n0 : (((h :: T).length : Int) == 0) = false := by simp only [List.length_cons]; simp; omega
    have nb : ((h :: T).length : Int) ≤ 1048576 := by have := hl.2.2; omega
    generalize aL (lsts (h :: T)) ((h :: T).length : Nat) = M at *
    generalize (h :: T).length = n at *
    clear hl
    go_enter Try.func12, Try.ntmps12
    go_wp2_with (go_at_call 10; refine hA.mono ?_; rintro e w1 ⟨a1, c1, rfl, hr1, hb1⟩)
    go_ret
    exact ⟨a1, c1, rfl, hr1, hb1⟩
theorem minus_call (a : Option Addr) (l : List Nat) (c : Nat) (b : Option Addr) (k : List Nat) (d : Nat) (W : World) (h1 : Rd Tk W a c l) (h2 : Rd Tk W b d k) :
    Calls Try.prog 14 #[.slice a l.length c, .slice b k.length d] W fun e w' => ∃ a c, e = .returned (.slice a (mns (setOf l) (setOf k)).length c) ∧ Rd Tk w' a c (mns (setOf l) (setOf k)) ∧ Below W.heap.size W w' := by
  have e : sft (setOf k) false (setOf l) = mns (setOf l) (setOf k) := by
    unfold sft mns
    apply List.filter_congr
    intro x _
    by_cases h : x ∈ setOf k
    · simp [h]
    · simp [h]
  refine (minus_any a l c b k d W h1 h2).mono ?_
  rintro e' w' ⟨v, rfl, hO, hb'⟩
  rw [e] at hO
  obtain ⟨a', n, c', rfl⟩ := ownI_slice hO
  obtain ⟨_, rfl⟩ := ownI_row hO
  have h3 : (mns (setOf l) (setOf k)).length ≤ (setOf l).length := List.length_filter_le _ _
  have h4 := PtMath.setOf_len l
  have h5 := h1.2.2.2
  exact ⟨a', c', rfl, Rd.of_own hO (by omega), hb'⟩
theorem rminus_call (a : Option Addr) (l : List Nat) (c : Nat) (b : Option Addr) (k : List Nat) (d : Nat) (W : World) (h1 : Rd Tk W a c l) (h2 : Rd Tk W b d k) (n1 : l.length ≤ 4194304) (n2 : k.length ≤ 4194304) :
    Calls Try.prog 15 #[.slice a l.length c, .slice b k.length d] W fun e w' => ∃ a c, e = .returned (.slice a (mns (setOf l) (setOf k)).length c) ∧ Rd Tk w' a c (mns (setOf l) (setOf k)) ∧ Below W.heap.size W w' := by
  refine (rMinus_any a l c b k d W h1 h2 n1 n2).mono ?_
  rintro e' w' ⟨v, rfl, hO, hb'⟩
  obtain ⟨a', n, c', rfl⟩ := ownI_slice hO
  obtain ⟨_, rfl⟩ := ownI_row hO
  have h3 : (mns (setOf l) (setOf k)).length ≤ (setOf l).length := List.length_filter_le _ _
  have h4 := PtMath.setOf_len l
  have h5 := h1.2.2.2
  exact ⟨a', c', rfl, Rd.of_own hO (by omega), hb'⟩
theorem of_call (f : Nat) (a : Option Addr) (l : List Nat) (c : Nat) (W : World) (hl : l.length ≤ 4194304) (h : Calls Try.prog f #[.slice a l.length c] W fun e w' => ∃ v, e = .returned v ∧ OwnI Tk w' W.heap.size v (setOf l) ∧ Below W.heap.size W w') :
    Calls Try.prog f #[.slice a l.length c] W fun e w' => ∃ a c, e = .returned (.slice a (setOf l).length c) ∧ Rd Tk w' a c (setOf l) ∧ Below W.heap.size W w' := by
  refine h.mono ?_
  rintro e' w' ⟨v, rfl, hO, hb'⟩
  obtain ⟨a', n, c', rfl⟩ := ownI_slice hO
  obtain ⟨_, rfl⟩ := ownI_row hO
  have h4 := PtMath.setOf_len l
  exact ⟨a', c', rfl, Rd.of_own hO (by omega), hb'⟩
end Pt
end Go.Proofs.Ythpfnajgbocpnaa
