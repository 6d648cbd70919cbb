import Derived.Test.YtdbhcemmaahemaaPkB
namespace Go.Proofs.Ytdbhcemmaahemaa
namespace Pk
open Go.RowKit Go.Sort Go.Lib
open PgMath (Inc setOf cnt)
open PgHpM (Hd)
open PgCnM (occ)
set_option linter.unusedVariables false
set_option maxRecDepth 100000

/-- A list of the call's own is answered. -/
def RO (W : World) (L : List Int) (e : Ending) (w' : World) : Prop := ∃ a c, e = .returned (.slice a L.length c) ∧ OwnI w' W.heap.size (.slice a L.length c) L ∧ Below W.heap.size W w'
theorem ro_of {W W1 : World} {L : List Int} {v : Value} {w' : World} (hb : Below W.heap.size W W1) (hO : OwnI w' W1.heap.size v L) (hb' : Below W1.heap.size W1 w') : RO W L (.returned v) w' := by
  obtain ⟨a, c, rfl⟩ := own_base2 hO
  exact ⟨a, c, rfl, ownI_base hO hb.size, hb.trans (hb'.mono hb.size)⟩
/-- Lists that may be read. -/
def Lk (W : World) (L : List Hd) : Prop := (∀ x ∈ L, Rd W x.1 x.2.1 x.2.2) ∧ tot (lsts L) + L.length ≤ 4194304
theorem Lk.below {W W' : World} {L : List Hd} (h : Lk W L) (hb : Below W.heap.size W W') : Lk W' L := ⟨fun x hx => (h.1 x hx).below hb, h.2⟩
theorem unionO (W : World) (L : List Hd) (h : Lk W L) :
    Calls Try.prog 22 #[.slice (some ⟨W.heap.size, 0, none⟩) L.length L.length] (W.alloc (.cells (L.map hv).toArray 35)) fun e w' => RO W (aL (lsts L) 1) e w' := by
  have hb : Below W.heap.size W (W.alloc (.cells (L.map hv).toArray 35)) := (Below.refl _ _).alloc (Nat.le_refl _) _
  have h2 := h.2
  refine (union_any (some ⟨W.heap.size, 0, none⟩) L L.length _ (srow_lit W L _) (fun x hx => (h.1 x hx).below hb) (by omega) (by omega)).mono ?_
  rintro e w' ⟨v, M, rfl, hO, hM, hb'⟩
  have e := atl_uniq hM
  subst e
  exact ro_of hb hO hb'
theorem atlO (k : Int) (W : World) (L : List Hd) (h : Lk W L) :
    Calls Try.prog 25 #[.int .i64 k, .slice (some ⟨W.heap.size, 0, none⟩) L.length L.length] (W.alloc (.cells (L.map hv).toArray 35)) fun e w' => RO W (aL (lsts L) k) e w' := by
  have hb : Below W.heap.size W (W.alloc (.cells (L.map hv).toArray 35)) := (Below.refl _ _).alloc (Nat.le_refl _) _
  have h2 := h.2
  refine (atLeast_any k (some ⟨W.heap.size, 0, none⟩) L L.length _ (srow_lit W L _) (fun x hx => (h.1 x hx).below hb) (by omega) (by omega)).mono ?_
  rintro e w' ⟨v, M, rfl, hO, hM, hb'⟩
  have e := atl_uniq hM
  subst e
  exact ro_of hb hO hb'
theorem mt_eq (h : Hd) (T : List Hd) : mt (setOf h.2.2) T = aL (lsts (h :: T)) ((h :: T).length : Nat) := by
  have hk := mt_ok T (setOf h.2.2) (PgMath.setOf_inc _)
  refine PgMath.inc_eq _ _ hk.1 (aL_is _ _).1 (fun x => ?_)
  have h1 := aL_all (lsts (h :: T)) (by simp [lsts]) x
  have h2 : (lsts (h :: T)).length = (h :: T).length := by simp [lsts]
  rw [h2] at h1
  rw [h1, mt_mem, PgMath.setOf_mem]
  unfold lsts
  rw [List.map_cons]
  constructor
  · rintro ⟨q1, q2⟩ l hl
    rcases List.mem_cons.1 hl with e | e
    · rw [e]; exact q1
    · obtain ⟨y, hy, rfl⟩ := List.mem_map.1 e
      exact q2 y hy
  · intro q
    exact ⟨q _ (List.mem_cons_self ..), fun y hy => q _ (List.mem_cons_of_mem _ (List.mem_map_of_mem hy))⟩
theorem meetO (W : World) (h : Hd) (T : List Hd) (hl : Lk W (h :: T)) :
    Calls Try.prog 23 #[.slice (some ⟨W.heap.size, 0, none⟩) (h :: T).length (h :: T).length] (W.alloc (.cells ((h :: T).map hv).toArray 35)) fun e w' => RO W (aL (lsts (h :: T)) ((h :: T).length : Nat)) e w' := by
  have hb : Below W.heap.size W (W.alloc (.cells ((h :: T).map hv).toArray 35)) := (Below.refl _ _).alloc (Nat.le_refl _) _
  have h2 := hl.2
  refine (meet_any (some ⟨W.heap.size, 0, none⟩) h T (h :: T).length _ (srow_lit W (h :: T) _) (Nat.le_refl _) (fun x hx => (hl.1 x hx).below hb) (by omega)).mono ?_
  rintro e w' ⟨v, rfl, hO, hb'⟩
  rw [mt_eq] at hO
  exact ro_of hb hO hb'
theorem sft_mns (X Y : List Int) : sft (setOf Y) false (setOf X) = mns (setOf X) (setOf Y) := by
  unfold sft mns
  apply List.filter_congr
  intro x _
  by_cases h : x ∈ setOf Y
  · simp [h]
  · simp [h]
theorem minusO (W : World) (a : Option Addr) (l : List Int) (c : Nat) (b : Option Addr) (k : List Int) (d : Nat) (h1 : Rd W a c l) (h2 : Rd W b d k) :
    Calls Try.prog 24 #[.slice a l.length c, .slice b k.length d] W fun e w' => RO W (mns (setOf l) (setOf k)) e w' := by
  refine (minus_any a l c b k d W h1 h2).mono ?_
  rintro e w' ⟨v, rfl, hO, hb'⟩
  rw [sft_mns] at hO
  exact ro_of (Below.refl _ _) hO hb'
theorem ofO (W : World) (a : Option Addr) (l : List Int) (c : Nat) (h1 : Rd W a c l) : Calls Try.prog 21 #[.slice a l.length c] W fun e w' => RO W (setOf l) e w' := by
  refine (of_any a l c W h1.1 h1.2.2.2).mono ?_
  rintro e w' ⟨v, rfl, hO, hb'⟩
  exact ro_of (Below.refl _ _) hO hb'
theorem sortO (W : World) (a : Option Addr) (l : List Int) (c : Nat) (h1 : Rd W a c l) (hl : l.length ≤ 4194304) : Calls Try.prog 20 #[.slice a l.length c] W fun e w' => RO W (setOf l) e w' := by
  refine (sorted_any l.length a l c W (Nat.le_refl _) h1.1 h1.2.1 (by omega)).mono ?_
  rintro e w' ⟨v, rfl, hO, hb'⟩
  exact ro_of (Below.refl _ _) hO hb'
/-- What the first six are. -/
theorem aL_one (D : List (List Int)) (l : List Int) (h : ∀ x, x ∈ l ↔ ∃ k ∈ D, x ∈ k) : aL D 1 = setOf l := by
  refine PgMath.inc_eq _ _ (aL_is _ _).1 (PgMath.setOf_inc _) (fun x => ?_)
  rw [(aL_is D 1).2 x, PgMath.setOf_mem, h x, ← PgCnM.occ_pos]
  omega
theorem aL_self (l : List Int) : aL [l] 1 = setOf l := aL_one _ _ (fun x => by simp)
theorem aL_twice (l : List Int) : aL [l, l] 1 = setOf l := aL_one _ _ (fun x => by simp)
theorem mns_nil (l : List Int) : mns (setOf l) (setOf []) = setOf l := by
  unfold mns
  have h : setOf [] = [] := by
    have := PgMath.setOf_len ([] : List Int)
    exact List.eq_nil_of_length_eq_zero (by simpa using this)
  rw [h]
  simp
theorem RO.rd {W : World} {L : List Int} {a : Option Addr} {c : Nat} {w' : World} (h : OwnI w' W.heap.size (.slice a L.length c) L) (hl : L.length ≤ 4194304) : Rd w' a c L := Rd.of_own h (by omega)
end Pk
end Go.Proofs.Ytdbhcemmaahemaa
