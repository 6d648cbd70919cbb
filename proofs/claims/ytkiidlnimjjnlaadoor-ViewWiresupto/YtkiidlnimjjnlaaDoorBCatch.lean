import Derived.Test.YtkiidlnimjjnlaaDoorBHead2
import Derived.Defers
import Derived.Recover
import Derived.Laws.Pointers
namespace Go.Proofs.YtkiidlnimjjnlaaDoor
open Go.RowKit
open BerMath (Hd HR num hAt)

abbrev fltV (c q : Int) : Value := .agg #[.int .i64 c, .int .i64 q]

theorem assert_fault (v : Value) (W : World) : (Instr.typeAssert (.iface 93 v) 20 93 true).run Tryd.prog W = .ok (.tuple #[v, .bool true]) W := by
  simp [Instr.typeAssert, run_underlying Tryd.underlying93, go_sem, Result.andThen]

theorem ended_fault (c q : Int) (w : World) : Calls Tryd.prog 68 #[.iface 93 (fltV c q)] w fun r w' => r = .returned (fltV c q) ∧ Below w.heap.size w w' := by
  have hta := assert_fault (fltV c q)
  go_enter Tryd.func68, Tryd.ntmps68
  go_wp2_with fail
  refine bodyPost_ret_by (v := fltV c q) ?_ rfl ⟨rfl, ?_⟩
  · simp [results, Tryd.results68, go_sem]
  · repeat' first | exact Below.refl _ _ | refine Below.setCell ?_ (by simp) _ | refine Below.alloc ?_ (by simp) _ | refine Below.alloc ?_ (by simp; omega) _
theorem ended_nil (w : World) : Calls Tryd.prog 68 #[.nilIface] w fun r w' => r = .returned (fltV 0 0) ∧ Below w.heap.size w w' := by
  go_enter Tryd.func68, Tryd.ntmps68
  go_wp2_with fail
  refine bodyPost_ret_by (v := fltV 0 0) ?_ rfl ⟨rfl, ?_⟩
  · simp [results, Tryd.results68, go_sem]
  · exact (Below.refl _ _).alloc (Nat.le_refl _) _

theorem catch_panicking (b : Nat) (c q : Int) (older : List PanicEntry) (w : World) (x0 x1 : Value) (hb : b < w.heap.size)
    (h0 : w.cell? ⟨b, 0, none⟩ = some x0) (h1 : w.cell? ⟨b, 1, none⟩ = some x1) (z0 : w.frozen? ⟨b, 0, none⟩ = false) (z1 : w.frozen? ⟨b, 1, none⟩ = false) :
    CallsD Tryd.prog 67 #[.pointer (some ⟨b, 0, none⟩)] (.panicking ({ v := .iface 93 (fltV c q), recovered := false } :: older)) w fun e u' w' =>
      e = .returned (.tuple #[]) ∧ u' = .panicking ({ v := .iface 93 (fltV c q), recovered := true } :: older) ∧ ∃ w1 y0 y1, Below w.heap.size w w1 ∧ w1.cell? ⟨b, 0, none⟩ = some y0 ∧ w1.cell? ⟨b, 1, none⟩ = some y1 ∧ w' = (w1.setCell ⟨b, 0, none⟩ (.int .i64 c)).setCell ⟨b, 1, none⟩ (.int .i64 q) := by
  refine callsD_of_wpS Tryd.func67 rfl fun c₀ cs hu => ?_
  apply wpS_region
  simp [wpOpsS, go_sem, recoverD, hu, Tryd.ntmps67]
  refine (ended_fault c q w).mono ?_
  rintro e w1 ⟨rfl, hb1⟩
  have k0 : w1.cell? ⟨b, 0, none⟩ = some x0 := by rw [hb1.cell hb]; exact h0
  have k1 : w1.cell? ⟨b, 1, none⟩ = some x1 := by rw [hb1.cell hb]; exact h1
  have f0 : w1.frozen? ⟨b, 0, none⟩ = false := by rw [hb1.frozen hb]; exact z0
  have f1 : w1.frozen? ⟨b, 1, none⟩ = false := by rw [hb1.frozen hb]; exact z1
  simp [go_sem, k0, k1, f0, f1, bodyPostS, results, Tryd.results67]
  exact ⟨w1, hb1, ⟨x0, k0⟩, ⟨x1, k1⟩, rfl⟩

theorem catch_idle (b : Nat) (w : World) (x0 x1 : Value) (hb : b < w.heap.size)
    (h0 : w.cell? ⟨b, 0, none⟩ = some x0) (h1 : w.cell? ⟨b, 1, none⟩ = some x1) (z0 : w.frozen? ⟨b, 0, none⟩ = false) (z1 : w.frozen? ⟨b, 1, none⟩ = false) :
    CallsD Tryd.prog 67 #[.pointer (some ⟨b, 0, none⟩)] .returning w fun e u' w' =>
      e = .returned (.tuple #[]) ∧ u' = .returning ∧ ∃ w1 y0 y1, Below w.heap.size w w1 ∧ w1.cell? ⟨b, 0, none⟩ = some y0 ∧ w1.cell? ⟨b, 1, none⟩ = some y1 ∧ w' = (w1.setCell ⟨b, 0, none⟩ (.int .i64 0)).setCell ⟨b, 1, none⟩ (.int .i64 0) := by
  refine callsD_of_wpS Tryd.func67 rfl fun c₀ cs hu => ?_
  apply wpS_region
  simp [wpOpsS, go_sem, recoverD, hu, Tryd.ntmps67]
  refine (ended_nil w).mono ?_
  rintro e w1 ⟨rfl, hb1⟩
  have k0 : w1.cell? ⟨b, 0, none⟩ = some x0 := by rw [hb1.cell hb]; exact h0
  have k1 : w1.cell? ⟨b, 1, none⟩ = some x1 := by rw [hb1.cell hb]; exact h1
  have f0 : w1.frozen? ⟨b, 0, none⟩ = false := by rw [hb1.frozen hb]; exact z0
  have f1 : w1.frozen? ⟨b, 1, none⟩ = false := by rw [hb1.frozen hb]; exact z1
  cases c₀
  simp_all [go_sem, bodyPostS, results, Tryd.results67]
  exact ⟨w1, hb1, ⟨x0, k0⟩, ⟨x1, k1⟩, rfl⟩

/-- How a reader ends: it returns, or it gives up. -/
def Read (r : Ending) (c q : Int) : Prop := (r = .returned (.tuple #[]) ∧ c = 0 ∧ q = 0) ∨ r = gaveUp c q
theorem read_back {c q : Int} (h : Read (.returned (.tuple #[])) c q) : c = 0 ∧ q = 0 := by
  rcases h with h | h
  · exact h.2
  · unfold gaveUp at h
    cases h
theorem read_gave {c q c' q' : Int} (h : Read (gaveUp c' q') c q) : c = c' ∧ q = q' := by
  rcases h with h | h
  · have := h.1
    unfold gaveUp at this
    cases this
  · simp [gaveUp] at h
    exact ⟨h.1.symm, h.2.symm⟩

theorem caught_any (k : FuncId) (cap : Array Value) (w : World) (R : Ending → World → Prop)
    (hent : ∀ args W, (callFunc k args).run Tryd.prog W = .ok (.enter k args) W)
    (hr : Calls Tryd.prog k cap (w.alloc (.cells #[.int .i64 0, .int .i64 0] 93)) fun r w1 => R r w1 ∧ w1.heap[w.heap.size]? = (w.alloc (.cells #[.int .i64 0, .int .i64 0] 93)).heap[w.heap.size]? ∧ w.heap.size < w1.heap.size ∧ ∃ c q, Read r c q) :
    Calls Tryd.prog 53 #[.func (.func k) #[] cap] w fun r w' => ∃ r1 w1 c q, R r1 w1 ∧ Read r1 c q ∧ r = .returned (fltV c q) ∧ Below w.heap.size w1 w' := by
  have hmf : ∀ (fn : Fn) (first cap : Array Value) (w : World), (Instr.makeFunc fn first cap).run Tryd.prog w = .ok (.func fn first cap) w := fun _ _ _ _ => rfl
  go_enter_defers Tryd.func53, Tryd.ntmps53
  go_wp2_with fail
  refine hr.mono ?_
  rintro r w1 ⟨hR, hblk, hlt, c, q, hread⟩
  have c0 : w1.cell? ⟨w.heap.size, 0, none⟩ = some (.int .i64 0) := by rw [World.cell?_of_block (w := w.alloc (.cells #[.int .i64 0, .int .i64 0] 93)) (a := ⟨w.heap.size, 0, none⟩) hblk]; simp [go_sem]
  have c1 : w1.cell? ⟨w.heap.size, 1, none⟩ = some (.int .i64 0) := by rw [World.cell?_of_block (w := w.alloc (.cells #[.int .i64 0, .int .i64 0] 93)) (a := ⟨w.heap.size, 1, none⟩) hblk]; simp [go_sem]
  have f0 : w1.frozen? ⟨w.heap.size, 0, none⟩ = false := by rw [World.frozen?_of_block (w := w.alloc (.cells #[.int .i64 0, .int .i64 0] 93)) (a := ⟨w.heap.size, 0, none⟩) hblk]; simp [go_sem]
  have f1 : w1.frozen? ⟨w.heap.size, 1, none⟩ = false := by rw [World.frozen?_of_block (w := w.alloc (.cells #[.int .i64 0, .int .i64 0] 93)) (a := ⟨w.heap.size, 1, none⟩) hblk]; simp [go_sem]
  clear hblk hr
  rcases hread with ⟨rfl, rfl, rfl⟩ | rfl
  ·
    obtain ⟨W, hW⟩ : ∃ W, W = (w1.setCell ⟨w.heap.size, 0, none⟩ (.int .i64 0)).setCell ⟨w.heap.size, 1, none⟩ (.int .i64 0) := ⟨_, rfl⟩
    have hs : W.heap.size = w1.heap.size := by rw [hW]; simp only [World.size_setCell]
    have hBW : Below w.heap.size w1 W := by
      rw [hW]
      refine Below.setCell (Below.setCell (Below.refl _ _) ?_ _) ?_ _ <;> exact Nat.le_refl _
    have c0' : W.cell? ⟨w.heap.size, 0, none⟩ = some (.int .i64 0) := by rw [hW]; simp [go_sem, c0]
    have c1' : W.cell? ⟨w.heap.size, 1, none⟩ = some (.int .i64 0) := by rw [hW]; simp [go_sem, c1]
    have f0' : W.frozen? ⟨w.heap.size, 0, none⟩ = false := by rw [hW]; simp [go_sem, f0]
    have f1' : W.frozen? ⟨w.heap.size, 1, none⟩ = false := by rw [hW]; simp [go_sem, f1]
    go_wp2_with fail
    rw [← hW]
    refine leaves_cons (f := 67) (args := #[.pointer (some ⟨w.heap.size, 0, none⟩)]) (by simp) (by simp [go_sem]) ?_
    refine (catch_idle w.heap.size W _ _ (by rw [hs]; exact hlt) c0' c1' f0' f1').mono ?_
    rintro e u' w'' ⟨rfl, rfl, w2, y0, y1, hb2, k0, k1, rfl⟩
    simp [Leaves, settle, results, Tryd.results53, go_sem, k0, k1]
    refine ⟨_, w1, hR, 0, 0, Or.inl ⟨rfl, rfl, rfl⟩, ⟨rfl, rfl⟩, ?_⟩
    have h1 : Below w.heap.size w1 w2 := hBW.trans (hb2.mono (by rw [hs]; exact Nat.le_of_lt hlt))
    refine Below.setCell (Below.setCell h1 ?_ _) ?_ _ <;> exact Nat.le_refl _
  ·
    refine leaves_cons (f := 67) (args := #[.pointer (some ⟨w.heap.size, 0, none⟩)]) (by simp) (by simp [go_sem]) ?_
    refine (catch_panicking w.heap.size c q [] w1 _ _ hlt c0 c1 f0 f1).mono ?_
    rintro e u' w'' ⟨rfl, rfl, w2, y0, y1, hb2, k0, k1, rfl⟩
    simp [Leaves, settle, results, Tryd.results53, go_sem, k0, k1]
    refine ⟨_, w1, hR, c, q, Or.inr rfl, ⟨rfl, rfl⟩, ?_⟩
    refine Below.setCell (Below.setCell (hb2.mono (Nat.le_of_lt hlt)) ?_ _) ?_ _ <;> exact Nat.le_refl _
end Go.Proofs.YtkiidlnimjjnlaaDoor
