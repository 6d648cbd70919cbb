import Derived.Test.YthpfnajgbocpnaaPtSif
namespace Go.Proofs.Ythpfnajgbocpnaa
namespace Pt
open Go.RowKit Go.Sort Go.Lib
open PtMath (Inc setOf cnt)
set_option linter.unusedVariables false
set_option maxRecDepth 100000
open PtT (Rk TB en)
variable {Tk : PtT.Rk}

/-- A list for reading: its numbers, rising, and its room. -/
def Rd (Tk : PtT.Rk) (w : World) (a : Option Addr) (c : Nat) (l : List Nat) : Prop := NRow Tk w a l ∧ l.length ≤ c ∧ c ≤ maxLen ∧ l.length ≤ 4194304
theorem Rd.below {w w' : World} {a : Option Addr} {c : Nat} {l : List Nat} (h : Rd Tk w a c l) (hb : Below w.heap.size w w') : Rd Tk w' a c l := ⟨h.1.below hb, h.2⟩
theorem Rd.of_own {w : World} {B : Nat} {a : Option Addr} {n c : Nat} {l : List Nat} (h : OwnI Tk w B (.slice a n c) l) (hl : l.length ≤ 4194304) : Rd Tk w a c l := by
  refine ⟨(ownI_row h).1, ?_, ?_, hl⟩
  · rcases ownI_form h with ⟨e1, e2⟩ | ⟨g, cap, e1, e2, e3, _⟩
    · rw [e2]; simp
    · injection e1 with _ _ e1; omega
  · rcases ownI_form h with ⟨e1, e2⟩ | ⟨g, cap, e1, e2, e3, _⟩
    · injection e1 with _ _ e1; unfold maxLen; omega
    · injection e1 with _ _ e1; omega
set_option maxRecDepth 100000 in
set_option maxHeartbeats 1000000 in
theorem ordered_any (a : Option Addr) (l : List Nat) (c : Nat) (w : World) (hr : Rd Tk w a c l) :
    Calls Try.prog 22 #[.slice a l.length c] w fun e w' => ∃ a' c', e = .returned (.slice a' (setOf l).length c') ∧ Rd Tk w' a' c' (setOf l) ∧ Below w.heap.size w w' := by
  have hRi := rising_any l a c w (by have := hr.2.2.2; omega) hr.1
  have hO : ∀ q, Hid (Calls Try.prog 5 #[.slice a l.length c] (w.drewN q) fun e w' => ∃ v, e = .returned v ∧ OwnI Tk w' w.heap.size v (setOf l) ∧ Below w.heap.size (w.drewN q) w') := fun q => of_any a l c (w.drewN q) (hr.1.drewN q) hr.2.2.2
  have hsl := PtMath.setOf_len l
  by_cases hI : Inc l
  · have hE : ∀ q, Hid (Rd Tk (w.drewN q) a c (setOf l) ∧ setOf l = l) := fun q => ⟨by rw [PtMath.setOf_self hI]; exact hr.below (below_drewN _ _ _), PtMath.setOf_self hI⟩
    rw [decide_eq_true hI] at hRi
    clear hr hsl hI hO
    go_enter Try.func22, Try.ntmps22
    go_wp2_with (go_at_call 7; refine hRi.mono ?_; rintro e w2 ⟨rfl, q, rfl⟩)
    go_ret
    exact ⟨a, c, by rw [(hE q).out.2]; rfl, (hE q).out.1, below_drewN _ _ _⟩
  · rw [decide_eq_false hI] at hRi
    have hl' : Hid ((setOf l).length ≤ 4194304) := by have := hr.2.2.2; unfold Hid; omega
    clear hr hsl hI
    go_enter Try.func22, Try.ntmps22
    go_wp2_with (first
      | (go_at_call 7; refine hRi.mono ?_; rintro e w2 ⟨rfl, q, rfl⟩)
      | (go_at_call 5; refine (hO _).out.mono ?_; rintro e w3 ⟨v3, rfl, hO3, hb3⟩; obtain ⟨a3, n3, c3, rfl⟩ := ownI_slice hO3; obtain ⟨hr3, rfl⟩ := ownI_row hO3; clear hr3))
    go_ret
    exact ⟨a3, c3, rfl, Rd.of_own hO3 hl'.out, (below_drewN _ _ _).trans hb3⟩
set_option maxRecDepth 100000 in
set_option maxHeartbeats 1000000 in
theorem minus_any (a : Option Addr) (l : List Nat) (c : Nat) (b : Option Addr) (k : List Nat) (d : Nat) (w : World) (h1 : Rd Tk w a c l) (h2 : Rd Tk w b d k) :
    Calls Try.prog 14 #[.slice a l.length c, .slice b k.length d] w fun e w' => ∃ v, e = .returned v ∧ OwnI Tk w' w.heap.size v (sft (setOf k) false (setOf l)) ∧ Below w.heap.size w w' := by
  have hA := ordered_any a l c w h1
  have hB : ∀ W, Hid (Below w.heap.size w W → Calls Try.prog 22 #[.slice b k.length d] W fun e w' => ∃ a' c', e = .returned (.slice a' (setOf k).length c') ∧ Rd Tk w' a' c' (setOf k) ∧ Below W.heap.size W w') := fun W hW => ordered_any b k d W (h2.below hW)
  clear h1 h2
  go_enter Try.func14, Try.ntmps14
  go_wp2_with (first
    | (go_at_call 22; refine ((hB w1).out hb1).mono ?_; rintro e w2 ⟨a2, c2, rfl, hr2, hb2⟩)
    | (go_at_call 22; refine hA.mono ?_; rintro e w1 ⟨a1, c1, rfl, hr1, hb1⟩)
    | (go_at_call 21; refine (sift_any a1 (setOf l) c1 a2 (setOf k) c2 false w2 (hr1.below hb2).1 (PtMath.setOf_inc l) hr1.2.2.2 hr2.1 (PtMath.setOf_inc k) hr2.2.1 hr2.2.2.1 (by have := hr2.2.2.2; omega)).mono ?_; rintro e w3 ⟨v3, rfl, hO3, hb3⟩))
  go_ret
  have hs : w.heap.size ≤ w2.heap.size := Nat.le_trans hb1.size hb2.size
  exact ⟨_, rfl, ownI_base hO3 hs, (hb1.trans (hb2.mono hb1.size)).trans (hb3.mono hs)⟩
end Pt
end Go.Proofs.Ythpfnajgbocpnaa
