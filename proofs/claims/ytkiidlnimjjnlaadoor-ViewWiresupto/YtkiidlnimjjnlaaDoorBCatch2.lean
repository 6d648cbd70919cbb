import Derived.Test.YtkiidlnimjjnlaaDoorBCatch
namespace Go.Proofs.YtkiidlnimjjnlaaDoor
open Go.RowKit
open BerMath (Hd HR num hAt)

theorem caught_all (k : FuncId) (cap : Array Value) (w : World) (R : Ending → World → Prop)
    (hent : ∀ args W, (callFunc k args).run Tryd.prog W = .ok (.enter k args) W)
    (hr : Calls Tryd.prog k cap (w.alloc (.cells #[.int .i64 0, .int .i64 0] 93)) fun r w1 => R r w1 ∧ w1.heap[w.heap.size]? = (w.alloc (.cells #[.int .i64 0, .int .i64 0] 93)).heap[w.heap.size]? ∧ w.heap.size < w1.heap.size ∧ ∃ c q, Read r c q) :
    Calls Tryd.prog 53 #[.func (.func k) #[] cap] w fun r w' => ∃ r1 w1 c q, R r1 w1 ∧ Read r1 c q ∧ r = .returned (fltV c q) ∧ Below w.heap.size w1 w' ∧ ∀ b, b < w1.heap.size → b ≠ w.heap.size → w'.heap[b]? = w1.heap[b]? := by
  have hmf : ∀ (fn : Fn) (first cap : Array Value) (w : World), (Instr.makeFunc fn first cap).run Tryd.prog w = .ok (.func fn first cap) w := fun _ _ _ _ => rfl
  go_enter_defers Tryd.func53, Tryd.ntmps53
  go_wp2_with fail
  refine hr.mono ?_
  rintro r w1 ⟨hR, hblk, hlt, c, q, hread⟩
  have c0 : w1.cell? ⟨w.heap.size, 0, none⟩ = some (.int .i64 0) := by rw [World.cell?_of_block (w := w.alloc (.cells #[.int .i64 0, .int .i64 0] 93)) (a := ⟨w.heap.size, 0, none⟩) hblk]; simp [go_sem]
  have c1 : w1.cell? ⟨w.heap.size, 1, none⟩ = some (.int .i64 0) := by rw [World.cell?_of_block (w := w.alloc (.cells #[.int .i64 0, .int .i64 0] 93)) (a := ⟨w.heap.size, 1, none⟩) hblk]; simp [go_sem]
  have f0 : w1.frozen? ⟨w.heap.size, 0, none⟩ = false := by rw [World.frozen?_of_block (w := w.alloc (.cells #[.int .i64 0, .int .i64 0] 93)) (a := ⟨w.heap.size, 0, none⟩) hblk]; simp [go_sem]
  have f1 : w1.frozen? ⟨w.heap.size, 1, none⟩ = false := by rw [World.frozen?_of_block (w := w.alloc (.cells #[.int .i64 0, .int .i64 0] 93)) (a := ⟨w.heap.size, 1, none⟩) hblk]; simp [go_sem]
  clear hblk hr
  rcases hread with ⟨rfl, rfl, rfl⟩ | rfl
  ·
    obtain ⟨W, hW⟩ : ∃ W, W = (w1.setCell ⟨w.heap.size, 0, none⟩ (.int .i64 0)).setCell ⟨w.heap.size, 1, none⟩ (.int .i64 0) := ⟨_, rfl⟩
    have hs : W.heap.size = w1.heap.size := by rw [hW]; simp only [World.size_setCell]
    have hBW : Below w.heap.size w1 W := by
      rw [hW]
      refine Below.setCell (Below.setCell (Below.refl _ _) ?_ _) ?_ _ <;> exact Nat.le_refl _
    have c0' : W.cell? ⟨w.heap.size, 0, none⟩ = some (.int .i64 0) := by rw [hW]; simp [go_sem, c0]
    have c1' : W.cell? ⟨w.heap.size, 1, none⟩ = some (.int .i64 0) := by rw [hW]; simp [go_sem, c1]
    have f0' : W.frozen? ⟨w.heap.size, 0, none⟩ = false := by rw [hW]; simp [go_sem, f0]
    have f1' : W.frozen? ⟨w.heap.size, 1, none⟩ = false := by rw [hW]; simp [go_sem, f1]
    go_wp2_with fail
    rw [← hW]
    refine leaves_cons (f := 67) (args := #[.pointer (some ⟨w.heap.size, 0, none⟩)]) (by simp) (by simp [go_sem]) ?_
    refine (catch_idle w.heap.size W _ _ (by rw [hs]; exact hlt) c0' c1' f0' f1').mono ?_
    rintro e u' w'' ⟨rfl, rfl, w2, y0, y1, hb2, k0, k1, rfl⟩
    simp [Leaves, settle, results, Tryd.results53, go_sem, k0, k1]
    refine ⟨_, w1, hR, 0, 0, Or.inl ⟨rfl, rfl, rfl⟩, ⟨rfl, rfl⟩, ?_, ?_⟩
    · have h1 : Below w.heap.size w1 w2 := hBW.trans (hb2.mono (by rw [hs]; exact Nat.le_of_lt hlt))
      refine Below.setCell (Below.setCell h1 ?_ _) ?_ _ <;> exact Nat.le_refl _
    · intro b hb hbn
      rw [Below.heap_setCell _ _ _ _ hbn, Below.heap_setCell _ _ _ _ hbn, hb2.block b (by rw [hs]; exact hb), hW, Below.heap_setCell _ _ _ _ hbn, Below.heap_setCell _ _ _ _ hbn]
  ·
    refine leaves_cons (f := 67) (args := #[.pointer (some ⟨w.heap.size, 0, none⟩)]) (by simp) (by simp [go_sem]) ?_
    refine (catch_panicking w.heap.size c q [] w1 _ _ hlt c0 c1 f0 f1).mono ?_
    rintro e u' w'' ⟨rfl, rfl, w2, y0, y1, hb2, k0, k1, rfl⟩
    simp [Leaves, settle, results, Tryd.results53, go_sem, k0, k1]
    refine ⟨_, w1, hR, c, q, Or.inr rfl, ⟨rfl, rfl⟩, ?_, ?_⟩
    · refine Below.setCell (Below.setCell (hb2.mono (Nat.le_of_lt hlt)) ?_ _) ?_ _ <;> exact Nat.le_refl _
    · intro b hb hbn
      rw [Below.heap_setCell _ _ _ _ hbn, Below.heap_setCell _ _ _ _ hbn, hb2.block b hb]
end Go.Proofs.YtkiidlnimjjnlaaDoor
