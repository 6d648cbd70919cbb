import Derived.Test.YtddkefjcpgdomaaFrm5
import Derived.Deep.OwnRows
namespace Go.Proofs.Ytddkefjcpgdomaa
open Go.RowKit
open FrMath (Hdr lb bd within Out ends cut Cut)

theorem made_size (n : Nat) : (madeCells #[.int .u8 0] n).size = n := by simp [madeCells]

/-- The copy into new room. -/
theorem copied_new (fb : Nat) (ad : Option Addr) (n cp : Nat) (r : List UInt8) (w : World) (hown : Own w (fb + 1) (.slice ad n cp) r) (hfb : fb < w.heap.size) (hn : n ≤ 1073741824) :
    ∃ wC, (Builtin.copy_ #[45, 45] 3 #[.slice (some ⟨w.heap.size, 0, none⟩) n n, .slice ad n cp]).run Try.prog (w.alloc (.cells (madeCells #[.int .u8 0] n) 5)) = .ok (goInt n) wC
      ∧ Own wC (fb + 1) (.slice (some ⟨w.heap.size, 0, none⟩) n n) r ∧ (∀ b, b < w.heap.size → wC.heap[b]? = w.heap[b]?) ∧ Below w.heap.size w wC := by
  obtain ⟨hnr, hnc⟩ := own_size hown
  have hg : (w.alloc (.cells (madeCells #[.int .u8 0] n) 5)).heap[w.heap.size]? = some (.cells (madeCells #[.int .u8 0] n) 5 (0, 0)) := heap_alloc_new w _
  by_cases h0 : n = 0
  · subst h0
    have hr : r = [] := List.eq_nil_of_length_eq_zero hnr.symm
    subst hr
    refine ⟨_, run_copy_none (P := Try.prog) (w.alloc (.cells (madeCells #[.int .u8 0] 0) 5)) 45 45 3 5 _ _ 0 0 0 cp Try.underlying45 u8_one rfl, ?_, fun b hb => Below.heap_alloc _ _ _ hb, (Below.refl _ _).alloc (Nat.le_refl _) _⟩
    exact ⟨rfl, Or.inr ⟨w.heap.size, 0, _, rfl, by omega, hg, Nat.le_refl _, by unfold maxLen; omega, by rw [made_size], by simp [bv]⟩⟩
  · rcases hown with ⟨hx, ⟨hv, hz⟩ | ⟨gH, cap, cur, hv, h3, h4, h5, h6, h7, h8⟩⟩
    · injection hv with _ e2 _
      omega
    · injection hv with e1 e2 e3
      subst e1 e3
      rw [Nat.mul_one, ← hnr] at h8
      have hlt : gH < w.heap.size := by
        rcases Nat.lt_or_ge gH w.heap.size with h' | h'
        · exact h'
        · rw [Array.getElem?_eq_none h'] at h4; cases h4
      have hlb : (bv r).length = n := by rw [bv_len, hnr]
      have hsrc : ∀ j v, (bv r)[j]? = some v → (w.alloc (.cells (madeCells #[.int .u8 0] n) 5)).cell? ((⟨gH, 0, none⟩ : Addr).add j) = some v := by
        intro j v hj
        have hjn : j < n := by rw [← hlb]; exact (List.getElem?_eq_some_iff.1 hj).1
        rw [add_j, World.cell?_of_block (w := w) (Below.heap_alloc w _ _ hlt)]
        unfold World.cell?
        simp only [h4]
        rw [← h8, List.getElem?_take_of_lt hjn] at hj
        simpa using hj
      have hrun := run_copy_row (P := Try.prog) (w.alloc (.cells (madeCells #[.int .u8 0] n) 5)) 45 45 3 5 w.heap.size 0 n n ⟨gH, 0, none⟩ n cp (madeCells #[.int .u8 0] n) 5 (bv r) Try.underlying45 u8_one hg (by rw [hlb]; exact (Nat.min_self n).symm) hsrc (by rw [hlb, made_size]; omega) (bv_one _)
      rw [hlb] at hrun
      refine ⟨_, hrun, ?_, fun b hb => ?_, below_setRow ((Below.refl _ _).alloc (Nat.le_refl _) _) (Nat.le_refl _) _⟩
      · have hms := made_size n
        unfold Own
        rw [← hnr]
        refine ⟨by rw [hlb]; omega, Or.inr ⟨w.heap.size, n, _, rfl, by omega, setRow_heap _ _ _ _ _ _ hg, Nat.le_refl _, by unfold maxLen; omega, ?_, ?_⟩⟩
        · simp [hlb, hms]
        · rw [Nat.mul_one]
          show List.take n (List.take 0 _ ++ bv r ++ _) = _
          rw [List.take_zero, List.nil_append, List.take_left' hlb]
      · rw [setRow_other _ _ _ _ (by omega)]
        exact Below.heap_alloc _ _ _ hb

set_option maxRecDepth 100000 in
set_option maxHeartbeats 400000 in
theorem shrink_any (fb : Nat) (lim : Int) (p : Nat) (v : Value) (r : List UInt8) (h : Hdr) (w : World) (hC : Cells w fb (frL lim p v h)) (hown : Own w (fb + 1) v r) (hr : r.length ≤ 1073741824) :
    Calls Try.prog 29 #[.pointer (some ⟨fb, 0, none⟩)] w fun e w' => e = .returned (.tuple #[]) ∧ ∃ v', v'.ownBlock = some w.heap.size ∧ Cells w' fb (frL lim p v' h) ∧ Own w' (fb + 1) v' r ∧ Below fb w w' ∧ ∀ b, b < w.heap.size → b ≠ fb → w'.heap[b]? = w.heap[b]? := by
  obtain ⟨ad, n, cp, rfl⟩ := own_slice hown
  obtain ⟨hn, hnc⟩ := own_size hown
  obtain ⟨⟨c0, c1, c2, c3, c4, c5⟩, y1, y2, y3, y4, y5⟩ := cells6 hC
  have hfb : fb < w.heap.size := hC.lt
  have hn3 : n ≤ 1073741824 := by omega
  have hmk : ∀ W, (Instr.makeSlice 45 (.int .i64 (n : Int)) (.int .i64 (n : Int))).run Try.prog W = .ok (.slice (some ⟨W.heap.size, 0, none⟩) n n) (W.alloc (.cells (madeCells #[.int .u8 0] n) 5)) :=
    fun W => run_make_row' 45 5 (.int .u8 0) 1 Try.underlying45 info_u8 rfl .i64 .i64 n (by omega) (by omega) W
  obtain ⟨wC, hrun, hownC, heC, hBC⟩ := copied_new fb ad n cp r w hown hfb hn3
  have hCC : Cells wC fb (frL lim p (.slice ad n cp) h) := hC.of_block (heC fb hfb)
  obtain ⟨⟨f0, f1, f2, f3, f4, f5⟩, z1, z2, z3, z4, z5⟩ := cells6 hCC
  have hC2 : Hid (Cells (wC.setCell ⟨fb, 2, none⟩ (.slice (some ⟨w.heap.size, 0, none⟩) n n)) fb (frL lim p (.slice (some ⟨w.heap.size, 0, none⟩) n n) h)) := hCC.set 2 (by simp) _
  have hown2 : Hid (Own (wC.setCell ⟨fb, 2, none⟩ (.slice (some ⟨w.heap.size, 0, none⟩) n n)) (fb + 1) (.slice (some ⟨w.heap.size, 0, none⟩) n n) r) := own_below hownC (fun g hg => Below.heap_setCell _ _ _ _ (by show g ≠ fb; have := (own_lt hownC hg).1; omega))
  have hB2 : Hid (Below fb w (wC.setCell ⟨fb, 2, none⟩ (.slice (some ⟨w.heap.size, 0, none⟩) n n))) := by
    unfold Hid
    refine Below.setCell (hBC.mono (Nat.le_of_lt hfb)) ?_ _
    exact Nat.le_refl _
  have hK2 : Hid (∀ b, b < w.heap.size → b ≠ fb → (wC.setCell ⟨fb, 2, none⟩ (.slice (some ⟨w.heap.size, 0, none⟩) n n)).heap[b]? = w.heap[b]?) := fun b hb hbn => by rw [Below.heap_setCell _ _ _ _ hbn, heC b hb]
  clear hCC hownC heC hBC hn hr hown hC
  go_enter Try.func29, Try.ntmps29
  go_wp2_with fail
  go_end0
  exact ⟨rfl, _, rfl, hC2.out, hown2.out, hB2.out, hK2.out⟩

theorem eq_header (a b c x y z : Int) (W : World) :
    (binOp .eql 58 (.agg #[.int .i64 a, .int .i64 b, .int .i64 c]) (.agg #[.int .i64 x, .int .i64 y, .int .i64 z])).run Try.prog W = .ok (.bool ((a == x) && (b == y) && (c == z))) W := by
  have hS : Try.prog.underlying 58 = some (.struct (Try.prog.fieldsOf 58)) := by kernel_rfl
  have hp : Try.prog.stoodInHeld 58 = false := by kernel_rfl
  rw [run_eql_struct, run_equalIn_struct _ _ _ _ _ hS hp]
  simp only [Program.fieldsOf, Try.underlying58]
  simp [Op.eqFields, go_sem]
  by_cases h1 : a = x <;> by_cases h2 : b = y <;> by_cases h3 : c = z <;> simp [h1, h2, h3]

theorem new_any (lim : Int) (w : World) :
    Calls Try.prog 17 #[.int .i64 lim] w fun e w' => ∃ fb, e = .returned (.pointer (some ⟨fb, 0, none⟩)) ∧ w.heap.size ≤ fb ∧ w'.heap.size = fb + 1 ∧ Cells w' fb (frL lim 0 (.slice none 0 0) ⟨2, 2, 0⟩) ∧ Below w.heap.size w w' := by
  have hLk : ∀ W, Hid (Calls Try.prog 23 #[.int .i64 lim, .string ⟨#[]⟩] W fun r w' => r = .returned (hV ⟨2, 2, 0⟩) ∧ Below W.heap.size W w') := fun W => look_any lim ⟨#[]⟩ W (by decide)
  go_enter Try.func17, Try.ntmps17
  go_wp2_with fail
  refine (hLk _).out.mono ?_
  rintro r w1 ⟨rfl, hb1⟩
  go_wp2_with fail
  go_ret
  refine ⟨w1.heap.size, rfl, hb1.size, by simp, ?_, hb1.alloc hb1.size _⟩
  intro j hj
  have : j = 0 ∨ j = 1 ∨ j = 2 ∨ j = 3 ∨ j = 4 ∨ j = 5 := by simp at hj; omega
  rcases this with rfl | rfl | rfl | rfl | rfl | rfl <;> simp [go_sem]
end Go.Proofs.Ytddkefjcpgdomaa
