import Derived.Test.YtoiilplnhecokaaDoorBlA
import Derived.Test.YtoiilplnhecokaaDoorAtFind
import Derived.Test.YtoiilplnhecokaaDoorKeM
import Derived.Test.YtoiilplnhecokaaDoorDuOwn
import Derived.Test.YtoiilplnhecokaaDoorBlB
import Derived.Test.YtoiilplnhecokaaDoorDnRow
namespace Go.Proofs.YtoiilplnhecokaaDoor
namespace Bl
open Go.RowKit
open TextMath (fold lo)
open Ke (tyOk tyC tyR)
set_option linter.unusedVariables false

/-- The names of a row: each is a type, and tells the row's own. -/
def nmOk (i : Fin 62) (s : ByteArray) : Bool := s.toList.isEmpty || (decide ((tyR s.data.toList).2.1 = 0) && decide ((tyR s.data.toList).1 = (rowL i).1) && decide (s.size ≤ 64))
set_option maxRecDepth 100000 in
theorem names_ok : (List.finRange 62).all (fun i => nmOk i (rowL i).1 && (nmOk i (rowL i).2.1 && nmOk i (rowL i).2.2)) = true := by kernel_rfl
set_option maxRecDepth 100000 in
theorem names_ne : (List.finRange 62).all (fun i => !(rowL i).1.toList.isEmpty && !(rowL i).2.2.toList.isEmpty) = true := by kernel_rfl
theorem name_ok (i : Fin 62) (s : ByteArray) (hs : s = (rowL i).1 ∨ s = (rowL i).2.1 ∨ s = (rowL i).2.2) (hn : s.toList.isEmpty = false) : (tyR s.data.toList).1 = (rowL i).1 ∧ (tyR s.data.toList).2.1 = 0 ∧ s.size ≤ 64 := by
  have h := List.all_eq_true.1 names_ok i (List.mem_finRange i)
  rw [Bool.and_eq_true, Bool.and_eq_true] at h
  have h2 : nmOk i s = true := by
    rcases hs with rfl | rfl | rfl
    · exact h.1
    · exact h.2.1
    · exact h.2.2
  unfold nmOk at h2
  rw [hn, Bool.false_or, Bool.and_eq_true, Bool.and_eq_true, decide_eq_true_eq, decide_eq_true_eq, decide_eq_true_eq] at h2
  exact ⟨h2.1.2, h2.1.1, h2.2⟩
theorem ty_row (t : List UInt8) (i : Fin 62) (h : rowOf (S (fold t)) = some i) (ht : tyOk t = true) : (tyR t).1 = (rowL i).1 ∧ (tyR t).2.1 = 0 := by
  have h0 : (tyR t).2.1 = 0 := of_decide_eq_true ht
  refine ⟨?_, h0⟩
  unfold tyR parsT at h0 ⊢
  split at h0
  · rename_i hc
    rw [if_pos hc]
    show canN _ = _
    unfold canN
    rw [h]
  · simp at h0
/-- What otherName answers. -/
def OnQ (t : List UInt8) (e : Ending) : Prop := ∃ t', e = .returned (.string (S t')) ∧ (tyR t').1 = (tyR t).1 ∧ (tyR t').2.1 = (tyR t).2.1 ∧ t'.length ≤ t.length + 64
theorem onq_same {t : List UInt8} {s : ByteArray} {e : Ending} (h : OcQ s e) (h1 : (tyR s.data.toList).1 = (tyR t).1) (h2 : (tyR s.data.toList).2.1 = (tyR t).2.1) (hl : s.size ≤ t.length + 64) : OnQ t e := by
  obtain ⟨t', rfl, hf, hl'⟩ := h
  have e := fold_same_ty hf
  exact ⟨t', rfl, by rw [e, h1], by rw [e, h2], by omega⟩
/-- The names that otherName picks among. -/
def nmL (i : Fin 62) : List (List UInt8) := [(rowL i).1.data.toList, (rowL i).2.2.data.toList] ++ (if (rowL i).2.1.toList = [] then [] else [(rowL i).2.1.data.toList])
theorem nmL_ok (i : Fin 62) (x : List UInt8) (h : x ∈ nmL i) : (tyR x).1 = (rowL i).1 ∧ (tyR x).2.1 = 0 ∧ x.length ≤ 64 := by
  have hne := List.all_eq_true.1 names_ne i (List.mem_finRange i)
  rw [Bool.and_eq_true, Bool.not_eq_true', Bool.not_eq_true'] at hne
  have key : ∀ s : ByteArray, (s = (rowL i).1 ∨ s = (rowL i).2.1 ∨ s = (rowL i).2.2) → s.toList.isEmpty = false → x = s.data.toList → (tyR x).1 = (rowL i).1 ∧ (tyR x).2.1 = 0 ∧ x.length ≤ 64 := by
    intro s hs hn e
    subst e
    have := name_ok i s hs hn
    rw [size_l]
    exact this
  unfold nmL at h
  simp only [List.cons_append, List.nil_append, List.mem_cons] at h
  rcases h with h | h | h
  · exact key _ (Or.inl rfl) hne.1 h
  · exact key _ (Or.inr (Or.inr rfl)) hne.2 h
  · split at h
    · cases h
    · rename_i hq
      rw [List.mem_singleton] at h
      exact key _ (Or.inr (Or.inl rfl)) (by cases hx : (rowL i).2.1.toList with | nil => exact absurd hx hq | cons a b => rfl) h
theorem own_two (w : World) (x y : ByteArray) : OwnS (w.alloc (.cells #[.string x, .string y] 9)) w.heap.size (.slice (some ⟨w.heap.size, 0, none⟩) 2 2) [x.data.toList, y.data.toList] :=
  ⟨rfl, Or.inr ⟨w.heap.size, 2, _, rfl, Nat.le_refl _, heap_alloc_new w _, Nat.le_refl _, by unfold maxLen; omega, rfl, by simp [sv, S_of]⟩⟩
set_option maxRecDepth 100000 in
set_option maxHeartbeats 4000000 in
theorem otherName_any (t : List UInt8) (n : Nat) (w : World) (ht : tyOk t = true) (hm : t.length ≤ 1073741760) (hn : n < 1024) (hT : NumT3 w) :
    Calls Tryd.prog 8 #[.string (S t), .int .i64 (n : Int)] w fun e w' => OnQ t e ∧ Below w.heap.size w w' := by
  have hst : (S t).size = t.length := by rw [← size_l, S_l]
  have n0 : (0 : Int) ≤ (n : Int) := Int.natCast_nonneg _
  have n1 : (n : Int) ≤ 1024 := by omega
  have hF : Hid (Calls Tryd.prog 15 #[.string (S t)] w fun e w' => FindIs w' w.heap.size (S (fold t)) e ∧ Below w.heap.size w w') := by
    have h := find_any (S t) w (by omega) hT
    rw [S_l] at h
    exact h
  have hC : Hid (∀ W, Calls Tryd.prog 9 #[.string (S t), .int .i64 (n : Int)] W fun e w' => OnQ t e ∧ Below W.heap.size W w') := fun W => (otherCase_any (S t) n W (by omega)).mono fun e w' ⟨h, hb⟩ => ⟨onq_same h (by rw [S_l]) (by rw [S_l]) (by omega), hb⟩
  have hD : Hid (∀ i, rowOf (S (fold t)) = some i → ∀ x ∈ nmL i, ∀ W, Calls Tryd.prog 9 #[.string (S x), .int .i64 (n : Int)] W fun e w' => OnQ t e ∧ Below W.heap.size W w') := fun i hi x hx W => by
    obtain ⟨k1, k2, k3⟩ := nmL_ok i x hx
    obtain ⟨r1, r2⟩ := ty_row t i hi ht
    have hsx : (S x).size = x.length := by rw [← size_l, S_l]
    exact (otherCase_any (S x) n W (by omega)).mono fun e w' ⟨h, hb⟩ => ⟨onq_same h (by rw [S_l, k1, r1]) (by rw [S_l, k2, r2]) (by omega), hb⟩
  clear hT hm ht hst
  generalize S t = st at *
  go_enter Tryd.func8, Tryd.ntmps8
  go_wp2_with fail
  refine hF.out.mono ?_
  rintro e w1 ⟨hI, hb1⟩
  have o1 : Hid (Below w.heap.size w w1) := hb1
  clear hF hb1
  rcases hI with ⟨hr, rfl⟩ | ⟨i, v, hr, rfl, al, rfl, hal⟩
  · clear hD hr
    go_wp2_with fail
    refine (hC.out _).mono ?_
    rintro e w3 ⟨hq, hb3⟩
    obtain ⟨t', rfl, hq1, hq2, hq3⟩ := hq
    have hfin : Hid (OnQ t (.returned (.string (S t')))) := ⟨t', rfl, hq1, hq2, hq3⟩
    clear hq1 hq2 hq3 hC
    go_wp2_with fail
    go_ret
    exact ⟨hfin.out, o1.out.trans (((Below.refl _ _).alloc (Nat.le_refl _) _).trans (hb3.mono (by simp)) |>.mono o1.out.size)⟩
  · clear hC
    obtain ⟨aa, an, ac, hrow, rfl, hnl⟩ : ∃ aa an ac, Row w1 aa (if (rowL i).2.1.toList = [] then [] else [(rowL i).2.1.data.toList]) ∧ al = .slice aa an ac ∧ an = (if (rowL i).2.1.toList = [] then [] else [(rowL i).2.1.data.toList]).length := by
      rcases hal with ⟨h0, rfl⟩ | ⟨h0, g, cc, _, rfl, hc⟩
      · rw [if_pos h0]
        exact ⟨_, _, _, Row.nil _ _, rfl, rfl⟩
      · rw [if_neg h0]
        refine ⟨_, _, _, fun k hk => ?_, rfl, rfl⟩
        have hk0 : k = 0 := by simp at hk; omega
        subst hk0
        exact ⟨g, 0, rfl, by rw [hc]; simp [S_of]⟩
    have hnm : Hid ([(rowL i).1.data.toList, (rowL i).2.2.data.toList] ++ (if (rowL i).2.1.toList = [] then [] else [(rowL i).2.1.data.toList]) = nmL i) := rfl
    have hDi : Hid (∀ x ∈ nmL i, ∀ W, Calls Tryd.prog 9 #[.string (S x), .int .i64 (n : Int)] W fun e w' => OnQ t e ∧ Below W.heap.size W w') := hD.out i hr
    generalize (if (rowL i).2.1.toList = [] then [] else [(rowL i).2.1.data.toList]) = m at *
    generalize USG.getD i.1 0 = ug at *
    generalize SYN.getD i.1 0 = sy at *
    generalize supN i = su at *
    generalize (rowL i).1 = nm at *
    generalize (rowL i).2.2 = od at *
    have hal : Hid (2 ≤ (nmL i).length) := by unfold Hid; rw [← hnm.out]; simp
    obtain ⟨w2, hw2⟩ : ∃ W, w1.alloc (.cells #[.string nm, .slice aa an ac, .string od, .string su, .int .i64 sy, .int .i64 ug] 50) = W := ⟨_, rfl⟩
    have hb2 : Below w1.heap.size w1 w2 := by rw [← hw2]; exact (Below.refl _ _).alloc (Nat.le_refl _) _
    have hr2 : w2.heap[w1.heap.size]? = some (.cells #[.string nm, .slice aa an ac, .string od, .string su, .int .i64 sy, .int .i64 ug] 50 (0, 0)) := by rw [← hw2]; exact heap_alloc_last w1 _
    have c0 : w2.cell? ⟨w1.heap.size, 0, none⟩ = some (.string nm) := (row_cell hr2 (j := 0) (by simp)).1
    have c1 : w2.cell? ⟨w1.heap.size, 1, none⟩ = some (.slice aa an ac) := (row_cell hr2 (j := 1) (by simp)).1
    have c2 : w2.cell? ⟨w1.heap.size, 2, none⟩ = some (.string od) := (row_cell hr2 (j := 2) (by simp)).1
    obtain ⟨w3, hw3⟩ : ∃ W, w2.alloc (.cells #[.string nm, .string od] 9) = W := ⟨_, rfl⟩
    have hb3 : Below w2.heap.size w2 w3 := by rw [← hw3]; exact (Below.refl _ _).alloc (Nat.le_refl _) _
    have d1 : w3.cell? ⟨w1.heap.size, 1, none⟩ = some (.slice aa an ac) := by rw [hb3.cell (World.block_lt_of_cell? _ _ c1)]; exact c1
    have hlm : an ≤ 1 := by
      rw [hnl]
      rcases Nat.lt_or_ge 1 m.length with h | h
      · exfalso
        have h3 := hnm.out
        have h4 : (nmL i).length ≤ 3 := by unfold nmL; split <;> simp
        rw [← h3] at h4
        simp at h4
        omega
      · exact h
    obtain ⟨v', w4, e9, o4, hb4⟩ := append_row w3 w2.heap.size (.slice (some ⟨w2.heap.size, 0, none⟩) 2 2) [nm.data.toList, od.data.toList] m aa an ac (by rw [← hw3]; exact own_two w2 nm od) ((hrow.below hb2).below hb3) hnl hb3.size (by rw [← hnl]; simp; omega)
    rw [hnm.out] at o4
    obtain ⟨g, xc, rfl⟩ : ∃ g xc, v' = .slice (some ⟨g, 0, none⟩) (nmL i).length xc := by
      rcases ownS_form o4 with ⟨_, h0⟩ | ⟨g, cap, e, _⟩
      · have := hal.out; rw [h0] at this; simp at this
      · exact ⟨g, cap, e⟩
    obtain ⟨xn, hxn⟩ : ∃ xn, (nmL i).length = xn := ⟨_, rfl⟩
    have hj : n % (nmL i).length < (nmL i).length := Nat.mod_lt _ (by have := hal.out; omega)
    have hcell := ownS_cell o4 _ hj
    have hcall := hDi.out _ (List.getElem_mem hj)
    rw [hxn] at e9 
    have x2 : (2 : Int) ≤ (xn : Int) := by have := hal.out; omega
    have x3 : (xn : Int) ≠ 0 := by omega
    have im : (n : Int).tmod (xn : Int) = ((n % (nmL i).length : Nat) : Int) := by rw [Int.tmod_eq_emod_of_nonneg n0, hxn]; simp
    have hB4 : Hid (Below w.heap.size w w4) := (o1.out.trans ((hb2.trans (hb3.mono hb2.size)).mono o1.out.size)).trans (hb4.mono (by have := o1.out.size; have := hb2.size; omega))
    have hj2 : n % (nmL i).length < xn := by rw [← hxn]; exact hj
    generalize (nmL i)[n % (nmL i).length] = x at *
    obtain ⟨j, hje⟩ : ∃ j, n % (nmL i).length = j := ⟨_, rfl⟩
    rw [hje] at im hj2 hcell
    have j0 : (0 : Int) ≤ (j : Int) := Int.natCast_nonneg _
    have j1 : (j : Int) < (xn : Int) := Int.ofNat_lt.2 hj2
    have hcl : Hid (∀ W, Calls Tryd.prog 9 #[.string (S x), .int .i64 (n : Int)] W fun e w' => OnQ t e ∧ Below W.heap.size W w') := hcall
    generalize S x = sx at *
    have n2 : ¬ (n : Int) < 0 := by omega
    have e9' : Hid ((Builtin.append_ #[26, 26] 26 #[.slice (some ⟨w2.heap.size, 0, none⟩) 2 2, .slice aa an ac]).run Tryd.prog w3 = .ok (.slice (some ⟨g, 0, none⟩) xn xc) w4) := e9
    clear hb2 hr2 hb3 hrow hnm hal hnl hlm o4 hb4 hxn hje hj hj2 hcall hDi hD hr e9
    go_upto_region 4 with fail
    clear hw2
    go_upto_region 5 with (at_builtin; refine Lib.wpList_append_run _ rfl _ _ _ _ rfl _ _ rfl rfl _ _ e9'.out ?_; clear e9')
    clear c0 c1 c2 d1 hw3
    go_wp2_with fail
    refine (hcl.out _).mono ?_
    rintro e w5 ⟨hq, hb5⟩
    obtain ⟨t', rfl, hq1, hq2, hq3⟩ := hq
    have hfin : Hid (OnQ t (.returned (.string (S t'))) ∧ Below w.heap.size w w5) := ⟨⟨t', rfl, hq1, hq2, hq3⟩, hB4.out.trans (hb5.mono hB4.out.size)⟩
    clear hq1 hq2 hq3 hcl hb5 hcell
    go_wp2_with fail
    go_ret
    exact hfin.out
end Bl
end Go.Proofs.YtoiilplnhecokaaDoor
