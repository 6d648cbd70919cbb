import Derived.Test.YthbncinmkkipeaaPgRef
namespace Go.Proofs.Ythbncinmkkipeaa
open Go.RowKit Go.Sort Go.Lib
open PgMath (Inc setOf cnt)
set_option linter.unusedVariables false

/-- A cursor of the reference. -/
abbrev rcV (a : Option Addr) (n c : Nat) (k : Nat) : Value := .agg #[.slice a n c, .int .i64 (k : Int)]
theorem cnt_drop {S : List Int} (h : Inc S) (x : Int) (k : Nat) : cnt (S.drop k) x = cnt S x - k := by
  obtain ⟨h1, h2⟩ := PgMath.cnt_split S x h
  have hl := PgMath.cnt_len S x
  refine PgMath.cnt_at (S.drop k) x (cnt S x - k) (by rw [List.length_drop]; omega) (fun j hj hjk => ?_) (PgMath.inc_drop h k) (fun hh => ?_)
  · rw [List.getElem_drop]
    rw [List.length_drop] at hj
    exact h1 (k + j) (by omega) (by omega)
  · rw [List.getElem_drop]
    rw [List.length_drop] at hh
    exact h2 (k + (cnt S x - k)) (by omega) (by omega)
theorem two_at {W : World} {R : Nat} {t : TypeId} {a0 a1 : Value} (h : W.heap[R]? = some (.cells #[a0, a1] t (0, 0))) : W.cell? ⟨R, 0, none⟩ = some a0 ∧ W.frozen? ⟨R, 0, none⟩ = false ∧ W.cell? ⟨R, 1, none⟩ = some a1 ∧ W.frozen? ⟨R, 1, none⟩ = false := by
  refine ⟨?_, ?_, ?_, ?_⟩ <;> simp [World.cell?, World.frozen?, h]
theorem ownI_but {w w' : World} {b B : Nat} {v : Value} {l : List Int} (h : OwnI w B v l) (hb : ButB b w w') (hB : b < B) : OwnI w' B v l := by
  rcases h with ⟨h1, ⟨rfl, h2⟩ | ⟨g, cap, cur, rfl, h3, h4, h5⟩⟩
  · exact ⟨h1, Or.inl ⟨rfl, h2⟩⟩
  · exact ⟨h1, Or.inr ⟨g, cap, cur, rfl, h3, by rw [hb.2.2.2.2 g (by omega)]; exact h4, h5⟩⟩
theorem two_set {W : World} {R : Nat} {t : TypeId} {a0 a1 : Value} (h : W.heap[R]? = some (.cells #[a0, a1] t (0, 0))) (v0 v1 : Value) :
    ((W.setCell ⟨R, 0, none⟩ v0).setCell ⟨R, 1, none⟩ v1).heap[R]? = some (.cells #[v0, v1] t (0, 0)) :=
  Go.heap_setCell_same _ _ _ _ _ _ (Go.heap_setCell_same _ _ _ _ _ _ h)
theorem res_rc {fn : Func} {p : Tmp} (h : fn.results = #[.cell p 33]) (tmps : Array Value) (W : World) (R : Nat) (a : Option Addr) (n c k : Nat) (hp : tmps.getD p undef = .pointer (some ⟨R, 0, none⟩)) (hR : W.heap[R]? = some (.cells #[.slice a n c, .int .i64 (k : Int)] 33 (0, 0))) :
    (results fn tmps).run Try.prog W = .ok (rcV a n c k) W := by
  exact results_cell_row h tmps W R 33 #[.slice a n c, .int .i64 (k : Int)] (0, 0) _ hp hR Try.underlying33 rfl (by kernel_rfl)
set_option maxRecDepth 100000 in
set_option maxHeartbeats 400000 in
theorem rnew_any (a : Option Addr) (l : List Int) (c : Nat) (w : World) (hr : NRow w a l) (hc : l.length ≤ c) (hl : l.length ≤ 17592186044416) :
    Calls Try.prog 15 #[.slice a l.length c] w fun e w' => ∃ a' c', e = .returned (rcV a' (setOf l).length c' 0) ∧ OwnI w' w.heap.size (.slice a' (setOf l).length c') (setOf l) ∧ Below w.heap.size w w' := by
  have hS : ∀ W, Hid (Below w.heap.size w W → Calls Try.prog 37 #[.slice a l.length c] W fun e w' => ∃ v, e = .returned v ∧ OwnI w' W.heap.size v (setOf l) ∧ Below W.heap.size W w') := fun W hW => sorted_any l.length a l c W (Nat.le_refl _) (hr.below hW) hc hl
  clear hr hc hl
  have hb0 : ∀ o, Below w.heap.size w (w.alloc o) := fun o => (Below.refl _ _).alloc (Nat.le_refl _) _
  go_enter Try.func15, Try.ntmps15
  go_wp2_with (go_at_call 37; refine ((hS _).out (hb0 _)).mono ?_; rintro e w1 ⟨v1, rfl, hO1, hb1⟩; obtain ⟨a1, n1, c1, rfl⟩ := ownI_slice hO1; obtain ⟨hr1, rfl⟩ := ownI_row hO1; clear hr1; have g1 : w1.heap[w.heap.size]? = some (.cells #[.slice none 0 0, .int .i64 0] 33 (0, 0)) := (by rw [hb1.block _ (by simp)]; exact heap_alloc_new _ _); obtain ⟨f0, y0, f1, y1⟩ := two_at g1)
  have hb2 : Below w.heap.size w w1 := (hb0 _).trans (hb1.mono (by simp))
  have hO2 : OwnI ((w1.setCell ⟨w.heap.size, 0, none⟩ (.slice a1 (setOf l).length c1)).setCell ⟨w.heap.size, 1, none⟩ (.int .i64 0)) w.heap.size (.slice a1 (setOf l).length c1) (setOf l) := by
    refine ownI_base (ownI_but (b := w.heap.size) hO1 ⟨rfl, rfl, rfl, by simp [World.setCell], fun k hk => ?_⟩ (by simp)) (by simp)
    rw [Below.heap_setCell _ _ _ _ hk, Below.heap_setCell _ _ _ _ hk]
  refine bodyPost_ret (res_rc rfl _ _ w.heap.size a1 (setOf l).length c1 0 rfl (two_set g1 _ _)) rfl ⟨a1, c1, rfl, hO2, ?_⟩
  refine Below.setCell (Below.setCell hb2 ?_ _) ?_ _ <;> exact Nat.le_refl _
set_option maxRecDepth 100000 in
set_option maxHeartbeats 400000 in
theorem rleft_any (a : Option Addr) (n c k : Nat) (w : World) (hk : k ≤ n) (hn : n ≤ 17592186044416) :
    Calls Try.prog 19 #[rcV a n c k] w fun e w' => e = .returned (.int .i64 ((n : Int) - (k : Int))) ∧ Below w.heap.size w w' := by
  have h1 : (k : Int) ≤ (n : Int) := by omega
  have h2 : (n : Int) ≤ 17592186044416 := by omega
  have h3 : (0 : Int) ≤ (k : Int) := by omega
  clear hk hn
  go_enter Try.func19, Try.ntmps19
  go_wp2_with fail
  go_ret
  exact ⟨rfl, (Below.refl _ _).alloc (Nat.le_refl _) _⟩
theorem two_alloc (w : World) (o p : Obj) : ((w.alloc o).alloc p).heap[w.heap.size + 1]? = some p ∧ Below w.heap.size w ((w.alloc o).alloc p) := by
  refine ⟨?_, ((Below.refl _ _).alloc (Nat.le_refl _) _).alloc (by simp) _⟩
  have := heap_alloc_new (w.alloc o) p
  simpa using this
set_option maxRecDepth 100000 in
set_option maxHeartbeats 400000 in
theorem rnext_any (a : Option Addr) (n c k : Nat) (w : World) (hk : k ≤ n) (hn : n ≤ 17592186044416) :
    Calls Try.prog 17 #[rcV a n c k] w fun e w' => e = .returned (rcV a n c (min (k + 1) n)) ∧ Below w.heap.size w w' := by
  have h2 : (n : Int) ≤ 17592186044416 := by omega
  have h3 : (0 : Int) ≤ (k : Int) := by omega
  by_cases h : k < n
  · have h1 : (k : Int) < (n : Int) := by omega
    have e : min (k + 1) n = k + 1 := by omega
    rw [e]
    clear hk hn h e
    go_enter Try.func17, Try.ntmps17
    go_wp2_with fail
    obtain ⟨g1, g2⟩ := two_alloc w (.cells #[.slice a n c, .int .i64 ((k : Int) + 1)] 33) (.cells #[.slice a n c, .int .i64 ((k : Int) + 1)] 33)
    exact bodyPost_ret (res_rc rfl _ _ (w.heap.size + 1) a n c (k + 1) rfl (by rw [g1]; simp)) rfl ⟨rfl, g2⟩
  · have h1 : ¬ (k : Int) < (n : Int) := by omega
    have e : min (k + 1) n = k := by omega
    rw [e]
    clear hk hn h e
    go_enter Try.func17, Try.ntmps17
    go_wp2_with fail
    obtain ⟨g1, g2⟩ := two_alloc w (.cells #[.slice a n c, .int .i64 (k : Int)] 33) (.cells #[.slice a n c, .int .i64 (k : Int)] 33)
    exact bodyPost_ret (res_rc rfl _ _ (w.heap.size + 1) a n c k rfl g1) rfl ⟨rfl, g2⟩
set_option maxRecDepth 100000 in
set_option maxHeartbeats 400000 in
theorem rhere_any (a : Option Addr) (S : List Int) (c k : Nat) (w : World) (hr : NRow w a S) (hk : k ≤ S.length) (hn : S.length ≤ 17592186044416) :
    Calls Try.prog 16 #[rcV a S.length c k] w fun e w' => e = .returned (hereV (S.drop k)) ∧ Below w.heap.size w w' := by
  have h2 : (S.length : Int) ≤ 17592186044416 := by omega
  have h3 : (0 : Int) ≤ (k : Int) := by omega
  by_cases h : k < S.length
  · have h1 : (k : Int) < (S.length : Int) := by omega
    have h1' : ¬ (S.length : Int) ≤ (k : Int) := by omega
    obtain ⟨b, off, rfl, c1⟩ := hr k h
    have hV : Hid (hereV (S.drop k) = .tuple #[.int .i64 S[k], .bool true]) := by
      unfold Hid hereV
      rw [PgMath.drop_step h]
      rfl
    have hB0 : ∀ o, (w.alloc o).cell? ⟨b, off + k, none⟩ = some (.int .i64 S[k]) := fun o => by
      rw [((Below.refl _ _).alloc (Nat.le_refl _) _ : Below w.heap.size w (w.alloc o)).cell (World.block_lt_of_cell? w _ c1)]
      exact c1
    rw [hV.out]
    generalize S[k] = X at *
    generalize S.length = n at *
    clear hr hk hn h hV c1
    go_enter Try.func16, Try.ntmps16
    go_wp2_with fail
    go_ret2
    exact ⟨rfl, (Below.refl _ _).alloc (Nat.le_refl _) _⟩
  · have e : k = S.length := by omega
    subst e
    have h1 : (S.length : Int) ≤ (S.length : Int) := Int.le_refl _
    rw [List.drop_length]
    generalize S.length = n at *
    clear hr hk hn h
    go_enter Try.func16, Try.ntmps16
    go_wp2_with fail
    go_ret2
    exact ⟨rfl, (Below.refl _ _).alloc (Nat.le_refl _) _⟩
set_option maxRecDepth 100000 in
set_option maxHeartbeats 400000 in
theorem rskip_any (a : Option Addr) (S : List Int) (c k : Nat) (x : Int) (w : World) (hr : NRow w a S) (hI : Inc S) (hk : k ≤ S.length) (hn : S.length ≤ 17592186044416) :
    Calls Try.prog 18 #[rcV a S.length c k, .int .i64 x] w fun e w' => e = .returned (rcV a S.length c (max k (cnt S x))) ∧ Below w.heap.size w w' := by
  have hP : ∀ W, Hid (Below w.heap.size w W → Calls Try.prog 38 #[.slice a S.length c, .int .i64 x] W fun e w' => e = .returned (.int .i64 (cnt S x : Int)) ∧ w' = W) := fun W hW => place_any a S c x W (hr.below hW) hI (by omega)
  have hc := PgMath.cnt_len S x
  have h2 : (S.length : Int) ≤ 17592186044416 := by omega
  have h3 : (0 : Int) ≤ (k : Int) := by omega
  generalize cnt S x = p at *
  have h4 : (p : Int) ≤ 17592186044416 := by omega
  have hb0 : ∀ o q, Below w.heap.size w ((w.alloc o).alloc q) := fun o q => ((Below.refl _ _).alloc (Nat.le_refl _) _).alloc (by simp) _
  generalize S.length = n at *
  by_cases h : k < p
  · have h1 : (k : Int) < (p : Int) := by omega
    have e : max k p = p := by omega
    rw [e]
    clear hr hk hn h e hc
    go_enter Try.func18, Try.ntmps18
    go_wp2_with (go_at_call 38; refine ((hP _).out (hb0 _ _)).mono ?_; rintro e w1 ⟨rfl, rfl⟩)
    obtain ⟨g1, g2⟩ := two_alloc w (.cells #[.slice a n c, .int .i64 (p : Int)] 33) (.cells #[.slice a n c, .int .i64 (p : Int)] 33)
    exact bodyPost_ret (res_rc rfl _ _ (w.heap.size + 1) a n c p rfl g1) rfl ⟨rfl, g2⟩
  · have h1 : ¬ (k : Int) < (p : Int) := by omega
    have e : max k p = k := by omega
    rw [e]
    clear hr hk hn h e hc
    go_enter Try.func18, Try.ntmps18
    go_wp2_with (go_at_call 38; refine ((hP _).out (hb0 _ _)).mono ?_; rintro e w1 ⟨rfl, rfl⟩)
    obtain ⟨g1, g2⟩ := two_alloc w (.cells #[.slice a n c, .int .i64 (k : Int)] 33) (.cells #[.slice a n c, .int .i64 (k : Int)] 33)
    exact bodyPost_ret (res_rc rfl _ _ (w.heap.size + 1) a n c k rfl g1) rfl ⟨rfl, g2⟩
end Go.Proofs.Ythbncinmkkipeaa
