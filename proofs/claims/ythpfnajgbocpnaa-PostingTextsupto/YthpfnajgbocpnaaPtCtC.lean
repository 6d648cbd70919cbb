import Derived.Test.YthpfnajgbocpnaaPtCtM
namespace Go.Proofs.Ythpfnajgbocpnaa
namespace Pt
open Go.RowKit Go.Sort Go.Lib
open PtMath (Inc setOf cnt)
open PtHpM (Hd)
open PtCnM (occ)
set_option linter.unusedVariables false
set_option maxRecDepth 100000
open PtT (Rk TB en)
variable {Tk : PtT.Rk}

/-- A list of lists that came in. -/
def LL (Tk : PtT.Rk) (W : World) (sa : Option Addr) (Ss : List Hd) : Prop := SRow W sa Ss ∧ (∀ x ∈ Ss, Rd Tk W x.1 x.2.1 x.2.2) ∧ tot (lsts Ss) + Ss.length ≤ 1048576
theorem LL.below {W W' : World} {sa : Option Addr} {Ss : List Hd} (h : LL Tk W sa Ss) (hb : Below W.heap.size W W') : LL Tk W' sa Ss := ⟨h.1.below hb, fun x hx => (h.2.1 x hx).below hb, h.2.2⟩
theorem LL.init {W : World} {sa : Option Addr} {A : List Hd} {x : Hd} (h : LL Tk W sa (A ++ [x])) : LL Tk W sa A := by
  refine ⟨fun i hi => ?_, fun y hy => h.2.1 y (List.mem_append.2 (Or.inl hy)), ?_⟩
  · obtain ⟨b, off, e, h1⟩ := h.1 i (by simp; omega)
    refine ⟨b, off, e, ?_⟩
    rw [h1, List.getElem_append_left hi]
  · have h1 := h.2.2
    unfold tot lsts at h1 ⊢
    rw [List.map_append, List.map_append, List.sum_append, List.length_append] at h1
    simp at h1
    simp
    omega
theorem atl_call (kk : Int) (sa : Option Addr) (Ss : List Hd) (sc : Nat) (W : World) (h : LL Tk W sa Ss) :
    Calls Try.prog 13 #[.int .i64 kk, .slice sa Ss.length sc] W fun e w' => ∃ a c, e = .returned (.slice a (aL (lsts Ss) kk).length c) ∧ Rd Tk w' a c (aL (lsts Ss) kk) ∧ Below W.heap.size W w' := by
  have hb := h.2.2
  refine (atLeast_any kk sa Ss sc W h.1 h.2.1 (by omega) (by omega)).mono ?_
  rintro e w' ⟨v, M, rfl, hO, hM, hb'⟩
  have e := atl_uniq hM
  subst e
  obtain ⟨a, n, c, rfl⟩ := ownI_slice hO
  obtain ⟨_, rfl⟩ := ownI_row hO
  have := aL_len (lsts Ss) kk
  exact ⟨a, c, rfl, Rd.of_own hO (by omega), hb'⟩
theorem union_call (sa : Option Addr) (Ss : List Hd) (sc : Nat) (W : World) (h : LL Tk W sa Ss) :
    Calls Try.prog 9 #[.slice sa Ss.length sc] W fun e w' => ∃ a c, e = .returned (.slice a (aL (lsts Ss) 1).length c) ∧ Rd Tk w' a c (aL (lsts Ss) 1) ∧ Below W.heap.size W w' := by
  have hb := h.2.2
  refine (union_any sa Ss sc W h.1 h.2.1 (by omega) (by omega)).mono ?_
  rintro e w' ⟨v, M, rfl, hO, hM, hb'⟩
  have e := atl_uniq hM
  subst e
  obtain ⟨a, n, c, rfl⟩ := ownI_slice hO
  obtain ⟨_, rfl⟩ := ownI_row hO
  have := aL_len (lsts Ss) 1
  exact ⟨a, c, rfl, Rd.of_own hO (by omega), hb'⟩
theorem meet_call (sa : Option Addr) (h : Hd) (T : List Hd) (sc : Nat) (W : World) (hl : LL Tk W sa (h :: T)) (hc : (h :: T).length ≤ sc) :
    Calls Try.prog 11 #[.slice sa (h :: T).length sc] W fun e w' => ∃ a c, e = .returned (.slice a (aL (lsts (h :: T)) ((h :: T).length : Nat)).length c) ∧ Rd Tk w' a c (aL (lsts (h :: T)) ((h :: T).length : Nat)) ∧ Below W.heap.size W w' := by
  have hb := hl.2.2
  refine (meet_any sa h T sc W hl.1 hc hl.2.1 (by omega)).mono ?_
  rintro e w' ⟨v, rfl, hO, hb'⟩
  have hk := mt_ok T (setOf h.2.2) (PtMath.setOf_inc _)
  have e : mt (setOf h.2.2) T = aL (lsts (h :: T)) ((h :: T).length : Nat) := by
    refine PtMath.inc_eq _ _ hk.1 (aL_is _ _).1 (fun x => ?_)
    have h1 := aL_all (lsts (h :: T)) (by simp [lsts]) x
    have h2 : (lsts (h :: T)).length = (h :: T).length := by simp [lsts]
    rw [h2] at h1
    rw [h1, mt_mem, PtMath.setOf_mem]
    unfold lsts
    rw [List.map_cons]
    constructor
    · rintro ⟨q1, q2⟩ l hl
      rcases List.mem_cons.1 hl with e | e
      · rw [e]; exact q1
      · obtain ⟨y, hy, rfl⟩ := List.mem_map.1 e
        exact q2 y hy
    · intro q
      exact ⟨q _ (List.mem_cons_self ..), fun y hy => q _ (List.mem_cons_of_mem _ (List.mem_map_of_mem hy))⟩
  rw [e] at hO
  obtain ⟨a, n, c, rfl⟩ := ownI_slice hO
  obtain ⟨_, rfl⟩ := ownI_row hO
  have := aL_len (lsts (h :: T)) ((h :: T).length : Nat)
  exact ⟨a, c, rfl, Rd.of_own hO (by omega), hb'⟩
theorem half_42 (a : Option Addr) (n c k : Nat) (z : Int) (hz : z = (k : Int)) (hk : k ≤ c) (W : World) :
    (Instr.sliceAt 22 (.slice a n c) none (some (.int .i64 z)) none).run Try.prog W = .ok (.slice a k c) W := by
  subst hz
  rw [run_sliceAt_slice _ _ _ _ _ _ el42, run_slice_h _ _ _ _ _ el42 _ _ (Int.natCast_nonneg _) (Int.ofNat_le.2 hk), run_sz42]
  cases a <;> simp [Result.andThen, sliced, Addr.add]
end Pt
end Go.Proofs.Ythpfnajgbocpnaa
