import Derived.Test.YtkecaeceeldcaaaGreatDoorMtRuA
namespace Go.Proofs.YtkecaeceeldcaaaGreatDoor
open Go.RowKit
set_option linter.unusedVariables false
namespace Ru

set_option maxRecDepth 100000 in
set_option maxHeartbeats 2000000 in
theorem ruleAt_any (r : Nat) (own : Int) (fa : FuncId) (hr0 : 1 ≤ r) (hr1 : r ≤ 30) (hrow : ∀ cs, RulC cs → ∃ n o, RulAt cs r n o own fa) (w : World) :
    Calls Tryz.prog 19 #[.int .i64 (r : Int)] w fun e w' => (∃ n o, e = .returned (.tuple #[.agg #[.string n, .string o, .int .i64 own, .func (.func fa) #[] #[]], .bool true])) ∧ Below w.heap.size w w' := by
  obtain ⟨W0, hW0⟩ : ∃ W0, w.alloc (.cells #[.string ⟨#[]⟩, .string ⟨#[]⟩, .int .i64 0, .nilFunc] 47) = W0 := ⟨_, rfl⟩
  have hR : Hid (Calls Tryz.prog 24 #[] W0 fun e w' => ∃ cs, e = .returned (.slice (some ⟨W0.heap.size, 0, none⟩) 31 31) ∧ w' = W0.alloc (.cells cs 47) ∧ RulC cs) := rules_any W0
  have g0 : W0.heap[w.heap.size]? = some (.cells #[.string ⟨#[]⟩, .string ⟨#[]⟩, .int .i64 0, .nilFunc] 47 (0, 0)) := by rw [← hW0]; exact heap_alloc_last w _
  have hB0 : Below w.heap.size w W0 := by rw [← hW0]; exact (Below.refl _ _).alloc (Nat.le_refl _) _
  have hz : w.heap.size < W0.heap.size := (Array.getElem?_eq_some_iff.1 g0).1
  have r0 : (0 : Int) ≤ (r : Int) := Int.natCast_nonneg _
  have r1 : (r : Int) < 31 := by omega
  have r2 : ¬ (r : Int) ≤ 0 := by omega
  have r3 : ¬ (31 : Int) ≤ (r : Int) := by omega
  have hrow' : Hid (∀ cs, RulC cs → ∃ n o, RulAt cs r n o own fa) := hrow
  have hH : Hid (w.heap.size < W0.heap.size ∧ Below w.heap.size w W0 ∧ W0.heap[w.heap.size]? = some (.cells #[.string ⟨#[]⟩, .string ⟨#[]⟩, .int .i64 0, .nilFunc] 47 (0, 0)) ∧ r ≤ 30) := ⟨hz, hB0, g0, hr1⟩
  clear hz hB0 g0 hr0 hr1 hrow
  go_enter Tryz.func19, Tryz.ntmps19
  go_wp2_with fail
  refine hR.out.mono ?_
  rintro e w' ⟨cs, rfl, rfl, hC⟩
  obtain ⟨n, o, q0, q1, q2, q3⟩ := hrow'.out cs hC
  have hcs : cs.size = 124 := hC.1
  obtain ⟨hz, hB0, g0, hr1⟩ := hH.out
  obtain ⟨W1, hW1⟩ : ∃ W1, W0.alloc (.cells cs 47) = W1 := ⟨_, rfl⟩
  rw [hW1]
  have G1 : W1.heap[W0.heap.size]? = some (.cells cs 47 (0, 0)) := by rw [← hW1]; exact heap_alloc_last W0 _
  have G0 : W1.heap[w.heap.size]? = some (.cells #[.string ⟨#[]⟩, .string ⟨#[]⟩, .int .i64 0, .nilFunc] 47 (0, 0)) := by rw [← hW1]; exact (Below.heap_alloc _ _ _ hz).trans g0
  have c0 : W1.cell? ⟨W0.heap.size, r * 4, none⟩ = some (.string n) := by rw [cell_of_row W1 _ _ _ _ _ G1]; exact q0
  have c1 : W1.cell? ⟨W0.heap.size, r * 4 + 1, none⟩ = some (.string o) := by rw [cell_of_row W1 _ _ _ _ _ G1]; exact q1
  have c2 : W1.cell? ⟨W0.heap.size, r * 4 + 2, none⟩ = some (.int .i64 own) := by rw [cell_of_row W1 _ _ _ _ _ G1]; exact q2
  have c3 : W1.cell? ⟨W0.heap.size, r * 4 + 3, none⟩ = some (.func (.func fa) #[] #[]) := by rw [cell_of_row W1 _ _ _ _ _ G1]; exact q3
  have d0 : W1.cell? ⟨w.heap.size, 0, none⟩ = some (.string ⟨#[]⟩) := by rw [cell_of_row W1 _ _ _ _ _ G0]; rfl
  have d1 : W1.cell? ⟨w.heap.size, 1, none⟩ = some (.string ⟨#[]⟩) := by rw [cell_of_row W1 _ _ _ _ _ G0]; rfl
  have d2 : W1.cell? ⟨w.heap.size, 2, none⟩ = some (.int .i64 0) := by rw [cell_of_row W1 _ _ _ _ _ G0]; rfl
  have d3 : W1.cell? ⟨w.heap.size, 3, none⟩ = some .nilFunc := by rw [cell_of_row W1 _ _ _ _ _ G0]; rfl
  have f0 := Go.frozen_of_row W1 w.heap.size 0 _ _ G0
  have f1 := Go.frozen_of_row W1 w.heap.size 1 _ _ G0
  have f2 := Go.frozen_of_row W1 w.heap.size 2 _ _ G0
  have f3 := Go.frozen_of_row W1 w.heap.size 3 _ _ G0
  have hB1 : Hid (Below w.heap.size w W1) := by unfold Hid; rw [← hW1]; exact hB0.alloc (by omega) _
  have G0' : Hid (W1.heap[w.heap.size]? = some (.cells #[.string ⟨#[]⟩, .string ⟨#[]⟩, .int .i64 0, .nilFunc] 47 (0, 0))) := G0
  have hst : (store ⟨w.heap.size, 3, none⟩ (.func (.func fa) #[] #[])).run Tryz.prog (((W1.setCell ⟨w.heap.size, 0, none⟩ (.string n)).setCell ⟨w.heap.size, 1, none⟩ (.string o)).setCell ⟨w.heap.size, 2, none⟩ (.int .i64 own)) = .ok () ((((W1.setCell ⟨w.heap.size, 0, none⟩ (.string n)).setCell ⟨w.heap.size, 1, none⟩ (.string o)).setCell ⟨w.heap.size, 2, none⟩ (.int .i64 own)).setCell ⟨w.heap.size, 3, none⟩ (.func (.func fa) #[] #[])) := by
    have hc : (((W1.setCell ⟨w.heap.size, 0, none⟩ (.string n)).setCell ⟨w.heap.size, 1, none⟩ (.string o)).setCell ⟨w.heap.size, 2, none⟩ (.int .i64 own)).cell? ⟨w.heap.size, 3, none⟩ = some .nilFunc := by
      rw [World.cell?_setCell_other _ _ _ _ (by simp), World.cell?_setCell_other _ _ _ _ (by simp), World.cell?_setCell_other _ _ _ _ (by simp)]
      exact d3
    rw [run_store Tryz.prog _ _ _ _ rfl, hc]
    simp [f3]
  clear hW1 G1 G0 hz hB0 g0 hr1 hC q0 q1 q2 q3 hcs hW0 hR hH hrow'
  go_wp2_with fail
  have E := Go.heap_setCell_same _ _ 3 _ _ (.func (.func fa) #[] #[]) (Go.heap_setCell_same _ _ 2 _ _ (.int .i64 own) (Go.heap_setCell_same _ _ 1 _ _ (.string o) (Go.heap_setCell_same W1 w.heap.size 0 _ _ (.string n) G0'.out)))
  obtain ⟨W2, hW2⟩ : ∃ W2, (((W1.setCell ⟨w.heap.size, 0, none⟩ (.string n)).setCell ⟨w.heap.size, 1, none⟩ (.string o)).setCell ⟨w.heap.size, 2, none⟩ (.int .i64 own)).setCell ⟨w.heap.size, 3, none⟩ (.func (.func fa) #[] #[]) = W2 := ⟨_, rfl⟩
  have HB2 : Below w.heap.size w W2 := by
    rw [← hW2]
    refine Below.setCell (Below.setCell (Below.setCell (Below.setCell hB1.out ?_ _) ?_ _) ?_ _) ?_ _ <;> exact Nat.le_refl _
  rw [hW2] at E ⊢
  have hl := run_loadVar_row (P := Tryz.prog) W2 w.heap.size 47 47 #[.string n, .string o, .int .i64 own, .func (.func fa) #[] #[]] (0, 0) _ E Tryz.underlying47 rfl (by kernel_rfl)
  refine bodyPost_ret ((results_cell_tmp rfl _ _ _).trans ?_) rfl ⟨⟨n, o, rfl⟩, HB2⟩
  simp [asAddr, hl, Result.andThen]

/-- The family of a syntax. -/
def fam (k : Int) : Int := if k = 2 then 1 else if k = 4 then 3 else k
theorem family_any (k : Int) (W : World) : Calls Tryz.prog 26 #[.int .i64 k] W fun e w' => e = .returned (.int .i64 (fam k)) ∧ w' = W := by
  by_cases h2 : k = 2
  · subst h2
    go_enter Tryz.func26, Tryz.ntmps26
    go_wp2_with fail
    go_ret
    exact ⟨rfl, rfl⟩
  by_cases h4 : k = 4
  · subst h4
    go_enter Tryz.func26, Tryz.ntmps26
    go_wp2_with fail
    go_ret
    exact ⟨rfl, rfl⟩
  have hf : fam k = k := (if_neg h2).trans (if_neg h4)
  rw [hf]
  have e2 : (k == 2) = false := by simpa using h2
  have e4 : (k == 4) = false := by simpa using h4
  go_enter Tryz.func26, Tryz.ntmps26
  go_wp2_with fail
  go_ret
  exact ⟨rfl, rfl⟩
theorem suits_fam (n o : ByteArray) (k s : Int) (fa : FuncId) (hks : fam k = fam s) (w : World) : Calls Tryz.prog 20 #[.agg #[.string n, .string o, .int .i64 k, .func (.func fa) #[] #[]], .int .i64 s] w fun e w' => e = .returned (.bool true) ∧ Below w.heap.size w w' := by
  have hF : ∀ W, Hid (Calls Tryz.prog 26 #[.int .i64 k] W fun e w' => e = .returned (.int .i64 (fam k)) ∧ w' = W) := fun W => family_any k W
  have hF2 : ∀ W, Hid (Calls Tryz.prog 26 #[.int .i64 s] W fun e w' => e = .returned (.int .i64 (fam k)) ∧ w' = W) := fun W => by rw [hks]; exact family_any s W
  obtain ⟨f, hf⟩ : ∃ f, fam k = f := ⟨_, rfl⟩
  simp only [hf] at hF hF2
  obtain ⟨W1, hW1⟩ : ∃ W1, w.alloc (.cells #[.string n, .string o, .int .i64 k, .func (.func fa) #[] #[]] 47) = W1 := ⟨_, rfl⟩
  have G1 : W1.heap[w.heap.size]? = some (.cells #[.string n, .string o, .int .i64 k, .func (.func fa) #[] #[]] 47 (0, 0)) := by rw [← hW1]; exact heap_alloc_last w _
  have c2 : W1.cell? ⟨w.heap.size, 2, none⟩ = some (.int .i64 k) := by rw [cell_of_row W1 _ _ _ _ _ G1]; rfl
  have hB : Hid (Below w.heap.size w W1) := by unfold Hid; rw [← hW1]; exact (Below.refl _ _).alloc (Nat.le_refl _) _
  clear G1 hks hf
  go_enter Tryz.func20, Tryz.ntmps20
  go_wp2_with fail
  refine (hF _).out.mono ?_
  rintro e w1 ⟨rfl, hww⟩
  obtain rfl := hww.symm
  clear hww hF hW1
  go_wp2_with fail
  refine (hF2 _).out.mono ?_
  rintro e w1 ⟨rfl, hww⟩
  obtain rfl := hww.symm
  clear hww hF2
  go_wp2_with fail
  go_ret
  exact ⟨rfl, hB.out⟩
end Ru
end Go.Proofs.YtkecaeceeldcaaaGreatDoor
