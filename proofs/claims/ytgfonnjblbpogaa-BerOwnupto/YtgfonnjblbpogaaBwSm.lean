import Derived.Test.YtgfonnjblbpogaaBwF
import Derived.Laws.StructEq
import Derived.BigQuiet
namespace Go.Proofs.Ytgfonnjblbpogaa
open Go.RowKit
set_option linter.unusedVariables false

theorem wr_up' (k : Nat) (h : k ≤ 140737488355328) : wrap64 ((k : Int) + 1) = (k : Int) + 1 := by unfold wrap64; omega
theorem ne_node (d c : Int) (m : Bool) (t : Int) (s : ByteArray) (W : World) :
    (binOp .neq 39 (.agg #[.int .i64 d, .int .i64 c, .bool m, .int .i64 t, .string s]) (.agg #[.int .i64 d, .int .i64 c, .bool m, .int .i64 t, .string s])).run Try.prog W = .ok (.bool false) W := by
  have hS : Try.prog.underlying 39 = some (.struct (Try.prog.fieldsOf 39)) := by kernel_rfl
  have hp : Try.prog.stoodInHeld 39 = false := by kernel_rfl
  rw [run_neq_struct, run_equalIn_struct _ _ _ _ _ hS hp]
  simp only [Program.fieldsOf, Try.underlying39]
  simp [Op.eqFields, go_sem]
theorem isN_row {w : World} {a : Option Addr} {n : Nat} {D C T : Nat → Int} {M : Nat → Bool} {B : Nat → ByteArray} (h : IsNodes w a n D C T M B) : NdRow w a (nodesL n D C T M B) := fun i hi => by
  have hi' : i < n := by simpa [nodesL] using hi
  obtain ⟨b, off, e, h0, h1, h2, h3, h4⟩ := h i hi'
  have hx : (nodesL n D C T M B)[i] = ⟨D i, C i, M i, T i, B i⟩ := by simp [nodesL]
  rw [hx]
  exact ⟨b, off, e, h0, h1, h2, h3, h4⟩
theorem nodesL_len (n : Nat) (D C T : Nat → Int) (M : Nat → Bool) (B : Nat → ByteArray) : (nodesL n D C T M B).length = n := by simp [nodesL]
set_option maxRecDepth 100000 in
set_option maxHeartbeats 2000000 in
theorem sameNodes_any (l : List Nd) (a b : Option Addr) (c d : Nat) (w : World) (hl : l.length ≤ 140737488355328) (h1 : NdRow w a l) (h2 : NdRow w b l) :
    Calls Try.prog 15 #[.slice a l.length c, .slice b l.length d] w fun r w' => r = .returned (.bool true) ∧ Below w.heap.size w w' := by
  have hl' : Hid (l.length ≤ 140737488355328) := hl
  clear hl
  go_enter Try.func15, Try.ntmps15
  go_wp2_with fail
  go_loopw [5] (fun iv wr => ∃ (k q : Nat), k ≤ l.length ∧ iv = .int .i64 (k : Int) ∧ Hid (wr = w.drewN q)) (fun iv _ => l.length - (intOf iv).toNat)
  case atStart => exact ⟨0, 0, Nat.zero_le _, rfl, rfl⟩
  case round =>
    obtain ⟨k, q, hk, rfl, hw⟩ := hrel
    have k0 : (0 : Int) ≤ (k : Int) := Int.natCast_nonneg _
    by_cases hlt : k < l.length
    · have k1 : (k : Int) < (l.length : Int) := Int.ofNat_lt.2 hlt
      obtain ⟨b1, o1, rfl, x0, x1, x2, x3, x4⟩ := h1 k hlt
      obtain ⟨b2, o2, rfl, y0, y1, y2, y3, y4⟩ := h2 k hlt
      have hE : ∀ a, wr.cell? a = w.cell? a := fun a => by rw [hw.out]; rfl
      rw [← hE] at x0 x1 x2 x3 x4 y0 y1 y2 y3 y4
      have hnq := fun W => ne_node l[k].dep l[k].cls l[k].made l[k].tag l[k].body W
      have hkw : Hid (wrap64 ((k : Int) + 1) = (k : Int) + 1) := wr_up' k (by have := hl'.out; omega)
      have hlt' : Hid (k < l.length) := hlt
      generalize l[k] = X at *
      clear hE h1 h2 hlt hk
      go_wp2_with fail
      go_quiet (fail)
      go_wp2_with fail
      have hkw2 := hkw.out
      refine ⟨⟨k + 1, _, hlt'.out, congrArg (Value.int .i64) (by rw [hkw2]; omega), by unfold Hid; rw [hw.out, World.drewN_drewN]⟩, ?_⟩
      rw [hkw2]
      have := hlt'.out
      simp [intOf]
      omega
    · obtain rfl : k = l.length := by omega
      have k1 : ¬ (l.length : Int) < (l.length : Int) := by omega
      clear h1 h2
      go_wp2_with fail
      go_ret
      exact ⟨rfl, by rw [hw.out]; exact ⟨rfl, rfl, rfl, Nat.le_refl _, fun _ _ => rfl⟩⟩
theorem ownN_any {w : World} {B : Nat} {v : Value} {l : List Nd} (h : OwnN w B v l) : ∃ a c, v = .slice a l.length c ∧ NdRow w a l := by
  rcases ownN_form h with ⟨e, rfl⟩ | ⟨g, cap, rfl⟩
  · exact ⟨_, _, e, fun i hi => by simp at hi⟩
  · exact ⟨_, _, rfl, (ownN_row h).1⟩
end Go.Proofs.Ytgfonnjblbpogaa
