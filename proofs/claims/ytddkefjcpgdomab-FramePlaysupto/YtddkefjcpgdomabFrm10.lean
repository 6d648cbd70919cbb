import Derived.Test.YtddkefjcpgdomabFrm9
namespace Go.Proofs.Ytddkefjcpgdomab
open Go.RowKit
open FrMath (Hdr lb bd within Out ends cut Cut)

set_option maxRecDepth 100000 in
set_option maxHeartbeats 400000 in
theorem needM_any (fb : Nat) (lim : Int) (p : Nat) (v : Value) (h : Hdr) (r : List UInt8) (w : World) (hC : Cells w fb (frL lim p v h)) (ho : Own w (fb + 1) v r) (hz : h.sz ≤ 140737488355328) (hr : r.length ≤ 140737488355328) :
    Calls Try.prog 12 #[.pointer (some ⟨fb, 0, none⟩)] w fun e w' => e = .returned (.int .i64 ((h.sz - r.length : Nat) : Int)) ∧ Below w.heap.size w w' := by
  obtain ⟨ad, n, cp, rfl⟩ := own_slice ho
  obtain ⟨hn, _⟩ := own_size ho
  obtain ⟨⟨c0, c1, c2, c3, c4, c5⟩, _⟩ := cells6 hC
  have hfb : fb < w.heap.size := hC.lt
  obtain ⟨mi, sz, er⟩ := h
  simp only at c3 c4 c5 hz
  have hN : ∀ W, Hid (Calls Try.prog 28 #[hdr mi sz er, .int .i64 (n : Int)] W fun r' w' => r' = .returned (.int .i64 ((sz - n : Nat) : Int)) ∧ w' = W.alloc (hO mi sz er)) := fun W => need_any mi sz er n W hz (by omega)
  rw [← hn]
  show Calls Try.prog _ _ w fun e w' => e = .returned (.int .i64 ((sz - n : Nat) : Int)) ∧ Below w.heap.size w w'
  generalize sz - n = m at *
  clear hn ho hr hz
  go_enter Try.func12, Try.ntmps12
  go_wp2_with fail
  refine wp_region_noPanic ?_
  refine wp_region_held_drew (S := fun W => W.cell? ⟨fb, 2, none⟩ = some (.slice ad n cp) ∧ W.cell? ⟨fb, 3, none⟩ = some (.int .i64 (mi : Int)) ∧ W.cell? ⟨fb, 4, none⟩ = some (.int .i64 (sz : Int)) ∧ W.cell? ⟨fb, 5, none⟩ = some (.int .i64 (er : Int))) (by kernel_rfl) ⟨c2, c3, c4, c5⟩ (fun _ => ?_)
  refine wpAnyH_take (i := 0) (v := ?va1) (by simp only [List.getElem?_toArray, List.getElem?_cons_zero]; exact rfl) (by kernel_rfl) (by kernel_rfl) (by kernel_rfl) (fun _ _ _ h => h) (Or.inl ⟨by rfl, ?ya1⟩) ⟨c2, c3, c4, c5⟩ ?ra1
  case ya1 =>
    intro w' hS
    obtain ⟨s2, s3, s4, s5⟩ := hS
    go_simp
    try with_reducible rfl
  case ra1 =>
  simp only [Act.put, List.setIfInBounds_toArray, List.set_cons_zero, List.set_cons_succ]
  refine wpAnyH_take (i := 1) (v := ?va2) (by simp only [List.getElem?_toArray, List.getElem?_cons_zero, List.getElem?_cons_succ]; exact rfl) (by kernel_rfl) (by kernel_rfl) (by kernel_rfl) (fun _ _ _ h => h) (Or.inl ⟨by rfl, ?ya2⟩) ⟨c2, c3, c4, c5⟩ ?ra2
  case ya2 =>
    intro w' hS
    obtain ⟨s2, s3, s4, s5⟩ := hS
    go_simp
    try with_reducible rfl
  case ra2 =>
  simp only [Act.put, List.setIfInBounds_toArray, List.set_cons_zero, List.set_cons_succ]
  refine wpAnyH_take (i := 2) (v := ?va3) (by simp only [List.getElem?_toArray, List.getElem?_cons_zero, List.getElem?_cons_succ]; exact rfl) (by kernel_rfl) (by kernel_rfl) (by kernel_rfl) (fun _ _ _ h => h) (Or.inl ⟨by rfl, ?ya3⟩) ⟨c2, c3, c4, c5⟩ ?ra3
  case ya3 =>
    intro w' hS
    obtain ⟨s2, s3, s4, s5⟩ := hS
    go_simp
    try with_reducible rfl
  case ra3 =>
  simp only [Act.put, List.setIfInBounds_toArray, List.set_cons_zero, List.set_cons_succ]
  refine wpAnyH_take (i := 3) (v := ?va4) (by simp only [List.getElem?_toArray, List.getElem?_cons_zero, List.getElem?_cons_succ]; exact rfl) (by kernel_rfl) (by kernel_rfl) (by kernel_rfl) (fun _ _ _ h => h) (Or.inl ⟨by rfl, ?ya4⟩) ⟨c2, c3, c4, c5⟩ ?ra4
  case ya4 =>
    intro w' hS
    obtain ⟨s2, s3, s4, s5⟩ := hS
    go_simp
    try with_reducible rfl
  case ra4 =>
  simp only [Act.put, List.setIfInBounds_toArray, List.set_cons_zero, List.set_cons_succ]
  refine wpAnyH_take (i := 4) (v := ?va5) (by simp only [List.getElem?_toArray, List.getElem?_cons_zero, List.getElem?_cons_succ]; exact rfl) (by kernel_rfl) (by kernel_rfl) (by kernel_rfl) (fun _ _ _ h => h) (Or.inl ⟨by rfl, ?ya5⟩) ⟨c2, c3, c4, c5⟩ ?ra5
  case ya5 =>
    intro w' hS
    obtain ⟨s2, s3, s4, s5⟩ := hS
    go_simp
    try with_reducible rfl
  case ra5 =>
  simp only [Act.put, List.setIfInBounds_toArray, List.set_cons_zero, List.set_cons_succ]
  refine wpAnyH_take (i := 5) (v := ?va6) (by simp only [List.getElem?_toArray, List.getElem?_cons_zero, List.getElem?_cons_succ]; exact rfl) (by kernel_rfl) (by kernel_rfl) (by kernel_rfl) (fun _ _ _ h => h) (Or.inl ⟨by rfl, ?ya6⟩) ⟨c2, c3, c4, c5⟩ ?ra6
  case ya6 =>
    intro w' hS
    obtain ⟨s2, s3, s4, s5⟩ := hS
    go_simp
    try with_reducible rfl
  case ra6 =>
  simp only [Act.put, List.setIfInBounds_toArray, List.set_cons_zero, List.set_cons_succ]
  refine wpAnyH_take (i := 6) (v := ?va7) (by simp only [List.getElem?_toArray, List.getElem?_cons_zero, List.getElem?_cons_succ]; exact rfl) (by kernel_rfl) (by kernel_rfl) (by kernel_rfl) (fun _ _ _ h => h) (Or.inl ⟨by rfl, ?ya7⟩) ⟨c2, c3, c4, c5⟩ ?ra7
  case ya7 =>
    intro w' hS
    obtain ⟨s2, s3, s4, s5⟩ := hS
    go_simp
    try with_reducible rfl
  case ra7 =>
  simp only [Act.put, List.setIfInBounds_toArray, List.set_cons_zero, List.set_cons_succ]
  refine wpAnyH_take (i := 7) (v := ?va8) (by simp only [List.getElem?_toArray, List.getElem?_cons_zero, List.getElem?_cons_succ]; exact rfl) (by kernel_rfl) (by kernel_rfl) (by kernel_rfl) (fun _ _ _ h => h) (Or.inl ⟨by rfl, ?ya8⟩) ⟨c2, c3, c4, c5⟩ ?ra8
  case ya8 =>
    intro w' hS
    obtain ⟨s2, s3, s4, s5⟩ := hS
    go_simp
    try with_reducible rfl
  case ra8 =>
  simp only [Act.put, List.setIfInBounds_toArray, List.set_cons_zero, List.set_cons_succ]
  refine wpAnyH_take (i := 8) (v := ?va9) (by simp only [List.getElem?_toArray, List.getElem?_cons_zero, List.getElem?_cons_succ]; exact rfl) (by kernel_rfl) (by kernel_rfl) (by kernel_rfl) (fun _ _ _ h => h) (Or.inl ⟨by rfl, ?ya9⟩) ⟨c2, c3, c4, c5⟩ ?ra9
  case ya9 =>
    intro w' hS
    obtain ⟨s2, s3, s4, s5⟩ := hS
    go_simp
    try with_reducible rfl
  case ra9 =>
  simp only [Act.put, List.setIfInBounds_toArray, List.set_cons_zero, List.set_cons_succ]
  refine wpAnyH_ready (rs := [9]) (by kernel_rfl) (by simp) ?_
  refine AllReadyH.cons (by simp only [List.getElem?_toArray, List.getElem?_cons_zero, List.getElem?_cons_succ]; exact rfl) (fun K hK => ?_) AllReadyH.nil
  go_simp
  refine (hN _).out.mono ?_
  rintro r' w1 ⟨rfl, rfl⟩
  have hCA : Cells (w.alloc (hO mi sz er)).drew fb (frL lim p (.slice ad n cp) ⟨mi, sz, er⟩) := hC.of_block (Below.heap_alloc _ _ _ hfb)
  have BA : Below w.heap.size w (w.alloc (hO mi sz er)).drew := ((Below.refl _ _).alloc (Nat.le_refl _) _).drew
  obtain ⟨⟨e0, e1, e2, e3, e4, e5⟩, _⟩ := cells6 hCA
  go_simp
  refine hK.out _ _ ⟨e2, e3, e4, e5⟩ (fun _ => ?_)
  clear hK K e0 e1 e2 e3 e4 e5
  generalize (w.alloc (hO mi sz er)).drew = wA at *
  refine wpAnyH_ready (rs := [10]) (by kernel_rfl) (by simp) ?_
  refine AllReadyH.cons (by simp only [List.getElem?_toArray, List.getElem?_cons_zero, List.getElem?_cons_succ]; exact rfl) (fun K hK => ?_) AllReadyH.nil
  go_simp
  obtain ⟨⟨e0, e1, e2, e3, e4, e5⟩, _⟩ := cells6 hCA
  refine hK.out _ _ ⟨e2, e3, e4, e5⟩ (fun _ => ?_)
  clear hK K
  refine wpAnyH_done (by kernel_rfl) ?_ _
  refine NoPanic.normal ?_
  clear c0 c1 c2 c3 c4 c5
  go_wp2_with fail
  go_ret
  exact ⟨rfl, BA⟩

end Go.Proofs.Ytddkefjcpgdomab
