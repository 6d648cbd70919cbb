import Derived.Test.YtdbhcemmaahemaaPgCtM
namespace Go.Proofs.Ytdbhcemmaahemaa
open Go.RowKit Go.Sort Go.Lib
open PgMath (Inc setOf cnt)
open PgHpM (Hd)
open PgCnM (occ)
set_option linter.unusedVariables false
set_option maxRecDepth 100000

/-- A list of lists that came in. -/
def LL (W : World) (sa : Option Addr) (Ss : List Hd) : Prop := SRow W sa Ss ∧ (∀ x ∈ Ss, Rd W x.1 x.2.1 x.2.2) ∧ tot (lsts Ss) + Ss.length ≤ 1048576
theorem LL.below {W W' : World} {sa : Option Addr} {Ss : List Hd} (h : LL W sa Ss) (hb : Below W.heap.size W W') : LL W' sa Ss := ⟨h.1.below hb, fun x hx => (h.2.1 x hx).below hb, h.2.2⟩
theorem LL.init {W : World} {sa : Option Addr} {A : List Hd} {x : Hd} (h : LL W sa (A ++ [x])) : LL W sa A := by
  refine ⟨fun i hi => ?_, fun y hy => h.2.1 y (List.mem_append.2 (Or.inl hy)), ?_⟩
  · obtain ⟨b, off, e, h1⟩ := h.1 i (by simp; omega)
    refine ⟨b, off, e, ?_⟩
    rw [h1, List.getElem_append_left hi]
  · have h1 := h.2.2
    unfold tot lsts at h1 ⊢
    rw [List.map_append, List.map_append, List.sum_append, List.length_append] at h1
    simp at h1
    simp
    omega
theorem atl_call (kk : Int) (sa : Option Addr) (Ss : List Hd) (sc : Nat) (W : World) (h : LL W sa Ss) :
    Calls Try.prog 25 #[.int .i64 kk, .slice sa Ss.length sc] W fun e w' => ∃ a c, e = .returned (.slice a (aL (lsts Ss) kk).length c) ∧ Rd w' a c (aL (lsts Ss) kk) ∧ Below W.heap.size W w' := by
  have hb := h.2.2
  refine (atLeast_any kk sa Ss sc W h.1 h.2.1 (by omega) (by omega)).mono ?_
  rintro e w' ⟨v, M, rfl, hO, hM, hb'⟩
  have e := atl_uniq hM
  subst e
  obtain ⟨a, n, c, rfl⟩ := ownI_slice hO
  obtain ⟨_, rfl⟩ := ownI_row hO
  have := aL_len (lsts Ss) kk
  exact ⟨a, c, rfl, Rd.of_own hO (by omega), hb'⟩
theorem union_call (sa : Option Addr) (Ss : List Hd) (sc : Nat) (W : World) (h : LL W sa Ss) :
    Calls Try.prog 22 #[.slice sa Ss.length sc] W fun e w' => ∃ a c, e = .returned (.slice a (aL (lsts Ss) 1).length c) ∧ Rd w' a c (aL (lsts Ss) 1) ∧ Below W.heap.size W w' := by
  have hb := h.2.2
  refine (union_any sa Ss sc W h.1 h.2.1 (by omega) (by omega)).mono ?_
  rintro e w' ⟨v, M, rfl, hO, hM, hb'⟩
  have e := atl_uniq hM
  subst e
  obtain ⟨a, n, c, rfl⟩ := ownI_slice hO
  obtain ⟨_, rfl⟩ := ownI_row hO
  have := aL_len (lsts Ss) 1
  exact ⟨a, c, rfl, Rd.of_own hO (by omega), hb'⟩
theorem meet_call (sa : Option Addr) (h : Hd) (T : List Hd) (sc : Nat) (W : World) (hl : LL W sa (h :: T)) (hc : (h :: T).length ≤ sc) :
    Calls Try.prog 23 #[.slice sa (h :: T).length sc] W fun e w' => ∃ a c, e = .returned (.slice a (aL (lsts (h :: T)) ((h :: T).length : Nat)).length c) ∧ Rd w' a c (aL (lsts (h :: T)) ((h :: T).length : Nat)) ∧ Below W.heap.size W w' := by
  have hb := hl.2.2
  refine (meet_any sa h T sc W hl.1 hc hl.2.1 (by omega)).mono ?_
  rintro e w' ⟨v, rfl, hO, hb'⟩
  have hk := mt_ok T (setOf h.2.2) (PgMath.setOf_inc _)
  have e : mt (setOf h.2.2) T = aL (lsts (h :: T)) ((h :: T).length : Nat) := by
    refine PgMath.inc_eq _ _ hk.1 (aL_is _ _).1 (fun x => ?_)
    have h1 := aL_all (lsts (h :: T)) (by simp [lsts]) x
    have h2 : (lsts (h :: T)).length = (h :: T).length := by simp [lsts]
    rw [h2] at h1
    rw [h1, mt_mem, PgMath.setOf_mem]
    unfold lsts
    rw [List.map_cons]
    constructor
    · rintro ⟨q1, q2⟩ l hl
      rcases List.mem_cons.1 hl with e | e
      · rw [e]; exact q1
      · obtain ⟨y, hy, rfl⟩ := List.mem_map.1 e
        exact q2 y hy
    · intro q
      exact ⟨q _ (List.mem_cons_self ..), fun y hy => q _ (List.mem_cons_of_mem _ (List.mem_map_of_mem hy))⟩
  rw [e] at hO
  obtain ⟨a, n, c, rfl⟩ := ownI_slice hO
  obtain ⟨_, rfl⟩ := ownI_row hO
  have := aL_len (lsts (h :: T)) ((h :: T).length : Nat)
  exact ⟨a, c, rfl, Rd.of_own hO (by omega), hb'⟩
theorem half_42 (a : Option Addr) (n c k : Nat) (z : Int) (hz : z = (k : Int)) (hk : k ≤ c) (W : World) :
    (Instr.sliceAt 33 (.slice a n c) none (some (.int .i64 z)) none).run Try.prog W = .ok (.slice a k c) W := by
  subst hz
  rw [run_sliceAt_slice _ _ _ _ _ _ el42, run_slice_h _ _ _ _ _ el42 _ _ (Int.natCast_nonneg _) (Int.ofNat_le.2 hk), run_sz42]
  cases a <;> simp [Result.andThen, sliced, Addr.add]
theorem lit7 (w : World) : Calls Try.prog 25 #[.int .i64 2, .slice (some ⟨w.heap.size + 1 + 1, 0, none⟩) 2 2] (((w.alloc (.cells #[.int .i64 7] 2)).alloc (.cells #[.int .i64 7] 2)).alloc (.cells #[.slice (some ⟨w.heap.size, 0, none⟩) 1 1, .slice (some ⟨w.heap.size + 1, 0, none⟩) 1 1] 35)) fun e w' => ∃ a c, e = .returned (.slice a 1 c) ∧ Below w.heap.size w w' := by
  have r1 := rd_lit w [7] 2 (by decide)
  have r2 := rd_lit (w.alloc (.cells #[.int .i64 7] 2)) [7] 2 (by decide)
  rw [World.size_alloc] at r2
  have hb : Below w.heap.size w ((w.alloc (.cells #[.int .i64 7] 2)).alloc (.cells #[.int .i64 7] 2)) := ((Below.refl _ _).alloc (Nat.le_refl _) _).alloc (by simp) _
  have hb2 : Below ((w.alloc (.cells #[.int .i64 7] 2)).alloc (.cells #[.int .i64 7] 2)).heap.size ((w.alloc (.cells #[.int .i64 7] 2)).alloc (.cells #[.int .i64 7] 2)) (((w.alloc (.cells #[.int .i64 7] 2)).alloc (.cells #[.int .i64 7] 2)).alloc (.cells #[.slice (some ⟨w.heap.size, 0, none⟩) 1 1, .slice (some ⟨w.heap.size + 1, 0, none⟩) 1 1] 35)) := (Below.refl _ _).alloc (Nat.le_refl _) _
  have hs := srow_lit ((w.alloc (.cells #[.int .i64 7] 2)).alloc (.cells #[.int .i64 7] 2)) [(some ⟨w.heap.size, 0, none⟩, 1, [7]), (some ⟨w.heap.size + 1, 0, none⟩, 1, [7])] 35
  rw [World.size_alloc, World.size_alloc] at hs
  refine Calls.mono (atl_call 2 (some ⟨w.heap.size + 1 + 1, 0, none⟩) [(some ⟨w.heap.size, 0, none⟩, 1, [7]), (some ⟨w.heap.size + 1, 0, none⟩, 1, [7])] 2 _ ⟨hs, ?_, by simp [tot, lsts]⟩) ?_
  · intro x hx
    simp only [List.mem_cons, List.not_mem_nil, or_false] at hx
    rcases hx with rfl | rfl
    · exact (r1.below ((Below.refl _ _).alloc (Nat.le_refl _) _)).below hb2
    · exact r2.below hb2
  · rintro e w' ⟨a, c, rfl, _, q⟩
    have e7 : aL (lsts [((some ⟨w.heap.size, 0, none⟩ : Option Addr), 1, ([7] : List Int)), (some ⟨w.heap.size + 1, 0, none⟩, 1, [7])]) 2 = [7] := by
      refine (atl_uniq ⟨by simp, fun x => ?_⟩).symm
      by_cases hx : x = 7
      · subst hx; simp [lsts, PgCnM.occ]
      · simp [lsts, PgCnM.occ, hx]
    rw [e7]
    exact ⟨a, c, rfl, hb.trans ((hb2.mono hb.size).trans (q.mono (by simp; omega)))⟩
end Go.Proofs.Ytdbhcemmaahemaa
