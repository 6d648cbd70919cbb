import Derived.Test.YtddkefjcpgdomaaFr1
namespace Go.Proofs.Ytddkefjcpgdomaa
open Go.RowKit
open FrMath (Hdr lb bd within Out ends cut Cut)

/-- A header as a value. -/
abbrev hdr (m z e : Nat) : Value := .agg #[.int .i64 (m : Int), .int .i64 (z : Int), .int .i64 (e : Int)]
abbrev hV (h : Hdr) : Value := hdr h.mi h.sz h.er
abbrev hO (m z e : Nat) : Obj := .cells #[.int .i64 (m : Int), .int .i64 (z : Int), .int .i64 (e : Int)] 58

theorem need_any (m z e n : Nat) (w : World) (hz : z ≤ 140737488355328) (hn : n ≤ 140737488355328) :
    Calls Try.prog 24 #[hdr m z e, .int .i64 (n : Int)] w fun r w' => r = .returned (.int .i64 ((z - n : Nat) : Int)) ∧ w' = w.alloc (hO m z e) := by
  have hw : wrap64 ((z : Int) - (n : Int)) = (z : Int) - (n : Int) := by unfold wrap64; omega
  go_enter Try.func24, Try.ntmps24
  go_wp2
  · go_ret
    exact ⟨ret_int (by omega), rfl⟩
  · go_ret
    exact ⟨ret_int (by omega), rfl⟩

theorem within_any (lim : Int) (m z : Nat) (w : World) :
    Calls Try.prog 30 #[.int .i64 lim, hdr m z 0] w fun r w' => r = .returned (hV (within lim m z)) ∧ Below w.heap.size w w' := by
  by_cases h1 : m = 0
  · subst h1
    by_cases h2 : lim < (z : Int)
    · have e : within lim 0 z = ⟨0, 0, 33⟩ := by unfold FrMath.within; rw [if_pos ⟨rfl, h2⟩]
      rw [e]
      clear e
      go_enter Try.func30, Try.ntmps30
      go_wp2
      refine bodyPost_ret_by (v := hdr 0 0 33) (by simp [results, Try.results30, go_sem]) rfl ⟨rfl, ?_⟩
      repeat' first | exact Below.refl _ _ | refine Below.setCell ?_ (by simp) _ | refine Below.alloc ?_ (by simp) _ | refine Below.alloc ?_ (by simp; omega) _
    · have e : within lim 0 z = ⟨0, z, 0⟩ := by unfold FrMath.within; rw [if_neg (fun hh => h2 hh.2)]
      rw [e]
      clear e
      go_enter Try.func30, Try.ntmps30
      go_wp2
      refine bodyPost_ret_by (v := hdr 0 z 0) (by simp [results, Try.results30, go_sem]) rfl ⟨rfl, ?_⟩
      repeat' first | exact Below.refl _ _ | refine Below.setCell ?_ (by simp) _ | refine Below.alloc ?_ (by simp) _ | refine Below.alloc ?_ (by simp; omega) _
  · have e : within lim m z = ⟨m, z, 0⟩ := FrMath.within_m _ _ _ h1
    rw [e]
    have d1 : ((m : Int) == 0) = false := by rw [beq_eq_false_iff_ne]; omega
    clear e h1
    go_enter Try.func30, Try.ntmps30
    go_wp2
    refine bodyPost_ret_by (v := hdr m z 0) (by simp [results, Try.results30, go_sem]) rfl ⟨rfl, ?_⟩
    repeat' first | exact Below.refl _ _ | refine Below.setCell ?_ (by simp) _ | refine Below.alloc ?_ (by simp) _ | refine Below.alloc ?_ (by simp; omega) _
abbrev hZ : Obj := .cells #[.int .i64 0, .int .i64 0, .int .i64 0] 58
/-- A result's room, behind a call. -/
theorem res_free {w w1 : World} (h : Below (w.alloc hZ).heap.size (w.alloc hZ) w1) :
    w1.frozen? ⟨w.heap.size, 0, none⟩ = false ∧ w1.frozen? ⟨w.heap.size, 1, none⟩ = false ∧ w1.frozen? ⟨w.heap.size, 2, none⟩ = false
    ∧ w1.cell? ⟨w.heap.size, 0, none⟩ = some (.int .i64 0) ∧ w1.cell? ⟨w.heap.size, 1, none⟩ = some (.int .i64 0) ∧ w1.cell? ⟨w.heap.size, 2, none⟩ = some (.int .i64 0) := by
  have hb : w1.heap[w.heap.size]? = (w.alloc hZ).heap[w.heap.size]? := h.block w.heap.size (by simp)
  have f : ∀ j, w1.frozen? ⟨w.heap.size, j, none⟩ = (w.alloc hZ).frozen? ⟨w.heap.size, j, none⟩ := fun j => World.frozen?_of_block (w := w.alloc hZ) (w' := w1) (a := ⟨w.heap.size, j, none⟩) hb
  have c : ∀ j, w1.cell? ⟨w.heap.size, j, none⟩ = (w.alloc hZ).cell? ⟨w.heap.size, j, none⟩ := fun j => World.cell?_of_block (w := w.alloc hZ) (w' := w1) (a := ⟨w.heap.size, j, none⟩) hb
  rw [f, f, f, c, c, c]
  simp [go_sem]

end Go.Proofs.Ytddkefjcpgdomaa
