import Derived.Test.YtdbhcemmaahemaaPgAtl
namespace Go.Proofs.Ytdbhcemmaahemaa
open Go.RowKit Go.Sort Go.Lib
open PgMath (Inc setOf cnt)
open PgHpM (Hd)
open PgCnM (occ)
set_option linter.unusedVariables false
set_option maxRecDepth 100000

/-- A rising list of just these numbers. -/
def SetIs (p : Int → Prop) (M : List Int) : Prop := Inc M ∧ ∀ x, x ∈ M ↔ p x
theorem SetIs.same {p q : Int → Prop} {M N : List Int} (h : SetIs p M) (k : SetIs q N) (e : ∀ x, p x ↔ q x) : M = N :=
  PgMath.inc_eq M N h.1 k.1 (fun x => by rw [h.2, k.2, e])
theorem SetIs.conv {p q : Int → Prop} {M : List Int} (h : SetIs p M) (e : ∀ x, p x ↔ q x) : SetIs q M := ⟨h.1, fun x => (h.2 x).trans (e x)⟩
theorem SetIs.none {p : Int → Prop} {M : List Int} (h : SetIs p M) (e : ∀ x, ¬ p x) : M = [] :=
  List.eq_nil_iff_forall_not_mem.2 (fun x hx => e x ((h.2 x).1 hx))
/-- A list for reading, with its size. -/
def Ls (W : World) (a : Option Addr) (c : Nat) (l : List Int) : Prop := Rd W a c l ∧ l.length ≤ 1099511627776
theorem Ls.below {w w' : World} {a : Option Addr} {c : Nat} {l : List Int} (h : Ls w a c l) (hb : Below w.heap.size w w') : Ls w' a c l := ⟨h.1.below hb, h.2⟩
theorem srow_lit (W : World) (L : List Hd) (t : TypeId) : SRow (W.alloc (.cells (L.map hv).toArray t)) (some ⟨W.heap.size, 0, none⟩) L := fun i hi => by
  refine ⟨W.heap.size, 0, rfl, ?_⟩
  rw [Nat.zero_add]
  have h : (W.alloc (.cells (L.map hv).toArray t)).heap[W.heap.size]? = some (.cells (L.map hv).toArray t (0, 0)) := heap_alloc_new _ _
  rw [cell_of_row _ _ _ _ _ _ h]
  simp [hi]
theorem tot_le (L : List Hd) (m : Nat) (h : ∀ x ∈ L, x.2.2.length ≤ m) : tot (lsts L) ≤ L.length * m := by
  unfold tot lsts
  induction L with
  | nil => simp
  | cons y T ih =>
    have h1 := h y (List.mem_cons_self ..)
    have h2 := ih (fun x hx => h x (List.mem_cons_of_mem _ hx))
    simp only [List.map_cons, List.sum_cons, List.length_cons, Nat.add_mul, Nat.one_mul]
    omega
theorem occ_one (D : List (List Int)) (x : Int) : (1 ≤ (occ D x : Int) ∧ 0 < occ D x) ↔ ∃ l ∈ D, x ∈ l := by
  rw [← PgCnM.occ_pos]
  constructor
  · exact fun h => h.2
  · exact fun h => ⟨by omega, h⟩
theorem len_sub : ∀ (M L : List Int), M.Nodup → (∀ x ∈ M, x ∈ L) → M.length ≤ L.length
  | [], _, _, _ => Nat.zero_le _
  | x :: M, L, h, hs => by
    have h' := List.nodup_cons.1 h
    have hx := hs x (List.mem_cons_self ..)
    have h1 := len_sub M (L.erase x) h'.2 (fun y hy => (List.mem_erase_of_ne (a := y) (b := x) (by intro e; subst e; exact h'.1 hy)).2 (hs y (List.mem_cons_of_mem _ hy)))
    rw [List.length_erase_of_mem hx] at h1
    have h2 : 0 < L.length := List.length_pos_of_mem hx
    simp only [List.length_cons]
    omega
theorem inc_nodup {M : List Int} (h : Inc M) : M.Nodup := List.Pairwise.imp (fun h => by omega) h
/-- What the union of a row of lists is. -/
theorem union_lit (W : World) (L : List Hd) (hL : ∀ x ∈ L, Ls W x.1 x.2.1 x.2.2) (hn : L.length ≤ 8) :
    Calls Try.prog 22 #[.slice (some ⟨W.heap.size, 0, none⟩) L.length L.length] (W.alloc (.cells (L.map hv).toArray 35)) fun e w' => ∃ a c M, e = .returned (.slice a M.length c) ∧ Rd w' a c M ∧ SetIs (fun x => ∃ l ∈ lsts L, x ∈ l) M ∧ M.length ≤ tot (lsts L) ∧ Below W.heap.size W w' := by
  have hb : Below W.heap.size W (W.alloc (.cells (L.map hv).toArray 35)) := (Below.refl _ _).alloc (Nat.le_refl _) _
  have ht := tot_le L 1099511627776 (fun x hx => (hL x hx).2)
  refine (union_any (some ⟨W.heap.size, 0, none⟩) L L.length _ (srow_lit W L _) (fun x hx => (hL x hx).1.below hb) (by omega) (by omega)).mono ?_
  rintro e w' ⟨v, M, rfl, hO, hM, hb'⟩
  obtain ⟨a, n, c, rfl⟩ := ownI_slice hO
  obtain ⟨_, rfl⟩ := ownI_row hO
  have hS : SetIs (fun x => ∃ l ∈ lsts L, x ∈ l) M := ⟨hM.1, fun x => by rw [hM.2 x, occ_one]⟩
  have hlen : M.length ≤ tot (lsts L) := by
    have h3 := len_sub M (lsts L).flatten (inc_nodup hM.1) (fun x hx => by
      obtain ⟨l, hl, hx'⟩ := (hS.2 x).1 hx
      exact List.mem_flatten.2 ⟨l, hl, hx'⟩)
    rw [List.length_flatten] at h3
    exact h3
  exact ⟨a, c, M, rfl, Rd.of_own hO (by omega), hS, hlen, hb.trans (hb'.mono hb.size)⟩
theorem meet_lit (W : World) (h : Hd) (T : List Hd) (hL : ∀ x ∈ h :: T, Ls W x.1 x.2.1 x.2.2) (hn : (h :: T).length ≤ 8) :
    Calls Try.prog 23 #[.slice (some ⟨W.heap.size, 0, none⟩) (h :: T).length (h :: T).length] (W.alloc (.cells ((h :: T).map hv).toArray 35)) fun e w' => ∃ a c M, e = .returned (.slice a M.length c) ∧ Rd w' a c M ∧ SetIs (fun x => ∀ l ∈ lsts (h :: T), x ∈ l) M ∧ M.length ≤ h.2.2.length ∧ Below W.heap.size W w' := by
  have hb : Below W.heap.size W (W.alloc (.cells ((h :: T).map hv).toArray 35)) := (Below.refl _ _).alloc (Nat.le_refl _) _
  refine (meet_any (some ⟨W.heap.size, 0, none⟩) h T (h :: T).length _ (srow_lit W (h :: T) _) (Nat.le_refl _) (fun x hx => (hL x hx).1.below hb) (by omega)).mono ?_
  rintro e w' ⟨v, rfl, hO, hb'⟩
  obtain ⟨a, n, c, rfl⟩ := ownI_slice hO
  obtain ⟨_, rfl⟩ := ownI_row hO
  have hk := mt_ok T (setOf h.2.2) (PgMath.setOf_inc _)
  have hl : (mt (setOf h.2.2) T).length ≤ h.2.2.length := Nat.le_trans hk.2 (PgMath.setOf_len _)
  have h1 := (hL h (List.mem_cons_self ..)).1.2.2.2
  refine ⟨a, c, _, rfl, Rd.of_own hO (by omega), ⟨hk.1, fun x => ?_⟩, hl, hb.trans (hb'.mono hb.size)⟩
  rw [mt_mem, PgMath.setOf_mem]
  unfold lsts
  rw [List.map_cons]
  constructor
  · rintro ⟨q1, q2⟩ l hl
    rcases List.mem_cons.1 hl with e | e
    · rw [e]; exact q1
    · obtain ⟨y, hy, rfl⟩ := List.mem_map.1 e
      exact q2 y hy
  · intro q
    exact ⟨q _ (List.mem_cons_self ..), fun y hy => q _ (List.mem_cons_of_mem _ (List.mem_map_of_mem hy))⟩
theorem minus_lit (W : World) (a : Option Addr) (l : List Int) (c : Nat) (b : Option Addr) (k : List Int) (d : Nat) (h1 : Ls W a c l) (h2 : Ls W b d k) :
    Calls Try.prog 24 #[.slice a l.length c, .slice b k.length d] W fun e w' => ∃ a c M, e = .returned (.slice a M.length c) ∧ Rd w' a c M ∧ SetIs (fun x => x ∈ l ∧ x ∉ k) M ∧ M.length ≤ l.length ∧ Below W.heap.size W w' := by
  refine (minus_any a l c b k d W h1.1 h2.1).mono ?_
  rintro e w' ⟨v, rfl, hO, hb'⟩
  obtain ⟨a', n, c', rfl⟩ := ownI_slice hO
  obtain ⟨_, rfl⟩ := ownI_row hO
  have hl : (sft (setOf k) false (setOf l)).length ≤ l.length := Nat.le_trans (sft_len _ _ _) (PgMath.setOf_len _)
  have h3 := h1.1.2.2.2
  refine ⟨a', c', _, rfl, Rd.of_own hO (by omega), ⟨sft_inc (PgMath.setOf_inc _), fun x => ?_⟩, hl, hb'⟩
  unfold sft
  rw [List.mem_filter, PgMath.setOf_mem]
  simp [PgMath.setOf_mem]
theorem of_lit (W : World) (a : Option Addr) (l : List Int) (c : Nat) (h1 : Ls W a c l) :
    Calls Try.prog 21 #[.slice a l.length c] W fun e w' => ∃ a c M, e = .returned (.slice a M.length c) ∧ Rd w' a c M ∧ SetIs (fun x => x ∈ l) M ∧ M.length ≤ l.length ∧ Below W.heap.size W w' := by
  refine (of_any a l c W h1.1.1 h1.1.2.2.2).mono ?_
  rintro e w' ⟨v, rfl, hO, hb'⟩
  obtain ⟨a', n, c', rfl⟩ := ownI_slice hO
  obtain ⟨_, rfl⟩ := ownI_row hO
  have hl := PgMath.setOf_len l
  have h3 := h1.1.2.2.2
  exact ⟨a', c', _, rfl, Rd.of_own hO (by omega), ⟨PgMath.setOf_inc _, fun x => PgMath.setOf_mem l x⟩, hl, hb'⟩
theorem takeI {l k : List Int} {i : Nat} (h : l.take i = k.take i) (h1 : i < l.length) (h2 : i < k.length) (e : l[i] = k[i]) : l.take (i + 1) = k.take (i + 1) := by
  rw [List.take_succ_eq_append_getElem h1, List.take_succ_eq_append_getElem h2, h, e]
set_option maxRecDepth 100000 in
set_option maxHeartbeats 1000000 in
theorem same_loop (l k : List Int) (a b : Option Addr) (c d : Nat) (w : World) (hlen : l.length = k.length) (hl : l.length ≤ 17592186044416) (h1 : NRow w a l) (h2 : NRow w b k) :
    Calls Try.prog 26 #[.slice a l.length c, .slice b k.length d] w fun e w' => e = .returned (.bool (decide (l = k))) ∧ ∃ q, w' = w.drewN q := by
  have hlen' : Hid (l.length = k.length) := hlen
  have hb0 : ((l.length : Int) != (k.length : Int)) = false := by rw [hlen]; simp
  go_enter Try.func26, Try.ntmps26
  clear hlen
  go_wp2_with fail
  go_loopw [5] (fun iv wr => ∃ i q : Nat, i ≤ l.length ∧ iv = .int .i64 (i : Int) ∧ Hid (l.take i = k.take i) ∧ Hid (wr = w.drewN q)) (fun iv _ => l.length - (intOf iv).toNat)
  case atStart => exact ⟨0, 0, Nat.zero_le _, rfl, by unfold Hid; simp, rfl⟩
  case round =>
    obtain ⟨i, q, hi, rfl, htk, hw⟩ := hrel
    have hlen := hlen'.out
    by_cases hlt : i < l.length
    · have hlk : i < k.length := by omega
      obtain ⟨b1, o1, rfl, c1⟩ := h1 i hlt
      obtain ⟨b2, o2, rfl, c2⟩ := h2 i hlk
      have hE : ∀ a, wr.cell? a = w.cell? a := fun a => by rw [hw.out]; rfl
      rw [← hE] at c1 c2
      have i0 : (0 : Int) ≤ (i : Int) := Int.natCast_nonneg _
      have i1 : (i : Int) < (l.length : Int) := Int.ofNat_lt.2 hlt
      have i2 : (i : Int) < (k.length : Int) := Int.ofNat_lt.2 hlk
      by_cases hx : l[i] = k[i]
      · have htk' : Hid (l.take (i + 1) = k.take (i + 1)) := takeI htk.out hlt hlk hx
        rw [← hx] at c2
        generalize l[i] = X at *
        clear hE hx hlen h1 h2
        go_wp2_with fail
        go_quiet (fail)
        go_wp2_with fail
        go_roundw
        case rel => exact ⟨i + 1, _, hlt, by simp, htk', by unfold Hid; rw [hw.out, World.drewN_drewN]⟩
        case measure => simp [intOf]; omega
      · have hne : (l[i] != k[i]) = true := by simpa using hx
        have hno : Hid (¬ l = k) := by intro q; subst q; exact hx rfl
        generalize l[i] = X at *
        generalize k[i] = Y at *
        clear hE hx hlen h1 h2
        go_wp2_with fail
        go_quiet (fail)
        go_wp2_with fail
        go_ret
        exact ⟨by rw [decide_eq_false hno.out]; rfl, _, by rw [hw.out, World.drewN_drewN]⟩
    · have e : i = l.length := by omega
      have hyes : Hid (l = k) := by
        have h := htk.out
        rw [e, List.take_length, hlen, List.take_length] at h
        exact h
      subst e
      have i1 : ¬ (l.length : Int) < (l.length : Int) := by omega
      clear h1 h2 hlen hlt hi
      go_wp2_with fail
      go_ret
      exact ⟨by rw [decide_eq_true hyes.out]; rfl, _, hw.out⟩
set_option maxRecDepth 100000 in
theorem same_any (l k : List Int) (a b : Option Addr) (c d : Nat) (w : World) (h1 : Rd w a c l) (h2 : Rd w b d k) :
    Calls Try.prog 26 #[.slice a l.length c, .slice b k.length d] w fun e w' => e = .returned (.bool (decide (l = k))) ∧ ∃ q, w' = w.drewN q := by
  by_cases hlen : l.length = k.length
  · exact same_loop l k a b c d w hlen (by have := h1.2.2.2; omega) h1.1 h2.1
  · have hno : Hid (¬ l = k) := by intro q; subst q; exact hlen rfl
    have hb0 : ((l.length : Int) != (k.length : Int)) = true := by simp; omega
    clear hlen h1 h2
    go_enter Try.func26, Try.ntmps26
    go_wp2_with fail
    go_ret
    exact ⟨by rw [decide_eq_false hno.out]; rfl, 0, rfl⟩
theorem same_yes (l k : List Int) (a b : Option Addr) (c d : Nat) (w : World) (h1 : Rd w a c l) (h2 : Rd w b d k) (he : l = k) :
    Calls Try.prog 26 #[.slice a l.length c, .slice b k.length d] w fun e w' => e = .returned (.bool true) ∧ Below w.heap.size w w' := by
  refine (same_any l k a b c d w h1 h2).mono ?_
  rintro e w' ⟨rfl, q, rfl⟩
  exact ⟨by rw [decide_eq_true he], below_drewN _ _ _⟩
theorem union1 (W : World) (a1 : Option Addr) (c1 : Nat) (l1 : List Int) (h1 : Ls W a1 c1 l1) :
    Calls Try.prog 22 #[.slice (some ⟨W.heap.size, 0, none⟩) 1 1] (W.alloc (.cells #[.slice a1 l1.length c1] 35)) fun e w' => ∃ a c M, e = .returned (.slice a M.length c) ∧ Rd w' a c M ∧ SetIs (fun x => x ∈ l1) M ∧ M.length ≤ l1.length ∧ Below W.heap.size W w' := by
  refine Calls.mono (union_lit W [(a1, c1, l1)] (fun y hy => by
    simp only [List.mem_cons, List.not_mem_nil, or_false] at hy
    subst hy
    exact h1) (by simp)) ?_
  rintro e w' ⟨a, c, M, rfl, q1, q2, q3, q4⟩
  refine ⟨a, c, M, rfl, q1, q2.conv (fun x => by simp [lsts]), ?_, q4⟩
  simp only [lsts, tot, List.map_cons, List.map_nil, List.sum_cons, List.sum_nil] at q3
  omega
theorem union2 (W : World) (a1 : Option Addr) (c1 : Nat) (l1 : List Int) (a2 : Option Addr) (c2 : Nat) (l2 : List Int) (h1 : Ls W a1 c1 l1) (h2 : Ls W a2 c2 l2) :
    Calls Try.prog 22 #[.slice (some ⟨W.heap.size, 0, none⟩) 2 2] (W.alloc (.cells #[.slice a1 l1.length c1, .slice a2 l2.length c2] 35)) fun e w' => ∃ a c M, e = .returned (.slice a M.length c) ∧ Rd w' a c M ∧ SetIs (fun x => x ∈ l1 ∨ x ∈ l2) M ∧ M.length ≤ l1.length + l2.length ∧ Below W.heap.size W w' := by
  refine Calls.mono (union_lit W [(a1, c1, l1), (a2, c2, l2)] (fun y hy => by
    simp only [List.mem_cons, List.not_mem_nil, or_false] at hy
    rcases hy with rfl | rfl
    · exact h1
    · exact h2) (by simp)) ?_
  rintro e w' ⟨a, c, M, rfl, q1, q2, q3, q4⟩
  refine ⟨a, c, M, rfl, q1, q2.conv (fun x => by simp [lsts]), ?_, q4⟩
  simp only [lsts, tot, List.map_cons, List.map_nil, List.sum_cons, List.sum_nil] at q3
  omega
theorem union3 (W : World) (a1 : Option Addr) (c1 : Nat) (l1 : List Int) (a2 : Option Addr) (c2 : Nat) (l2 : List Int) (a3 : Option Addr) (c3 : Nat) (l3 : List Int) (h1 : Ls W a1 c1 l1) (h2 : Ls W a2 c2 l2) (h3 : Ls W a3 c3 l3) :
    Calls Try.prog 22 #[.slice (some ⟨W.heap.size, 0, none⟩) 3 3] (W.alloc (.cells #[.slice a1 l1.length c1, .slice a2 l2.length c2, .slice a3 l3.length c3] 35)) fun e w' => ∃ a c M, e = .returned (.slice a M.length c) ∧ Rd w' a c M ∧ SetIs (fun x => x ∈ l1 ∨ x ∈ l2 ∨ x ∈ l3) M ∧ M.length ≤ l1.length + l2.length + l3.length ∧ Below W.heap.size W w' := by
  refine Calls.mono (union_lit W [(a1, c1, l1), (a2, c2, l2), (a3, c3, l3)] (fun y hy => by
    simp only [List.mem_cons, List.not_mem_nil, or_false] at hy
    rcases hy with rfl | rfl | rfl
    · exact h1
    · exact h2
    · exact h3) (by simp)) ?_
  rintro e w' ⟨a, c, M, rfl, q1, q2, q3, q4⟩
  refine ⟨a, c, M, rfl, q1, q2.conv (fun x => by simp [lsts]), ?_, q4⟩
  simp only [lsts, tot, List.map_cons, List.map_nil, List.sum_cons, List.sum_nil] at q3
  omega
theorem meet1 (W : World) (a1 : Option Addr) (c1 : Nat) (l1 : List Int) (h1 : Ls W a1 c1 l1) :
    Calls Try.prog 23 #[.slice (some ⟨W.heap.size, 0, none⟩) 1 1] (W.alloc (.cells #[.slice a1 l1.length c1] 35)) fun e w' => ∃ a c M, e = .returned (.slice a M.length c) ∧ Rd w' a c M ∧ SetIs (fun x => x ∈ l1) M ∧ M.length ≤ l1.length ∧ Below W.heap.size W w' := by
  refine Calls.mono (meet_lit W (a1, c1, l1) [] (fun y hy => by
    simp only [List.mem_cons, List.not_mem_nil, or_false] at hy
    subst hy
    exact h1) (by simp)) ?_
  rintro e w' ⟨a, c, M, rfl, q1, q2, q3, q4⟩
  refine ⟨a, c, M, rfl, q1, q2.conv (fun x => by simp [lsts]), ?_, q4⟩
  exact q3
theorem meet2 (W : World) (a1 : Option Addr) (c1 : Nat) (l1 : List Int) (a2 : Option Addr) (c2 : Nat) (l2 : List Int) (h1 : Ls W a1 c1 l1) (h2 : Ls W a2 c2 l2) :
    Calls Try.prog 23 #[.slice (some ⟨W.heap.size, 0, none⟩) 2 2] (W.alloc (.cells #[.slice a1 l1.length c1, .slice a2 l2.length c2] 35)) fun e w' => ∃ a c M, e = .returned (.slice a M.length c) ∧ Rd w' a c M ∧ SetIs (fun x => x ∈ l1 ∧ x ∈ l2) M ∧ M.length ≤ l1.length ∧ Below W.heap.size W w' := by
  refine Calls.mono (meet_lit W (a1, c1, l1) [(a2, c2, l2)] (fun y hy => by
    simp only [List.mem_cons, List.not_mem_nil, or_false] at hy
    rcases hy with rfl | rfl
    · exact h1
    · exact h2) (by simp)) ?_
  rintro e w' ⟨a, c, M, rfl, q1, q2, q3, q4⟩
  refine ⟨a, c, M, rfl, q1, q2.conv (fun x => by simp [lsts]), ?_, q4⟩
  exact q3
theorem meet3 (W : World) (a1 : Option Addr) (c1 : Nat) (l1 : List Int) (a2 : Option Addr) (c2 : Nat) (l2 : List Int) (a3 : Option Addr) (c3 : Nat) (l3 : List Int) (h1 : Ls W a1 c1 l1) (h2 : Ls W a2 c2 l2) (h3 : Ls W a3 c3 l3) :
    Calls Try.prog 23 #[.slice (some ⟨W.heap.size, 0, none⟩) 3 3] (W.alloc (.cells #[.slice a1 l1.length c1, .slice a2 l2.length c2, .slice a3 l3.length c3] 35)) fun e w' => ∃ a c M, e = .returned (.slice a M.length c) ∧ Rd w' a c M ∧ SetIs (fun x => x ∈ l1 ∧ x ∈ l2 ∧ x ∈ l3) M ∧ M.length ≤ l1.length ∧ Below W.heap.size W w' := by
  refine Calls.mono (meet_lit W (a1, c1, l1) [(a2, c2, l2), (a3, c3, l3)] (fun y hy => by
    simp only [List.mem_cons, List.not_mem_nil, or_false] at hy
    rcases hy with rfl | rfl | rfl
    · exact h1
    · exact h2
    · exact h3) (by simp)) ?_
  rintro e w' ⟨a, c, M, rfl, q1, q2, q3, q4⟩
  refine ⟨a, c, M, rfl, q1, q2.conv (fun x => by simp [lsts]), ?_, q4⟩
  exact q3
theorem rd_lit (W : World) (L : List Int) (t : TypeId) (h : L.length ≤ 64) : Rd (W.alloc (.cells (iv L).toArray t)) (some ⟨W.heap.size, 0, none⟩) L.length L := by
  refine ⟨fun i hi => ⟨W.heap.size, 0, rfl, ?_⟩, Nat.le_refl _, by unfold maxLen; omega, by omega⟩
  have h1 : (W.alloc (.cells (iv L).toArray t)).heap[W.heap.size]? = some (.cells (iv L).toArray t (0, 0)) := heap_alloc_new _ _
  rw [Nat.zero_add, cell_of_row _ _ _ _ _ _ h1]
  simp [iv, hi]
end Go.Proofs.Ytdbhcemmaahemaa
