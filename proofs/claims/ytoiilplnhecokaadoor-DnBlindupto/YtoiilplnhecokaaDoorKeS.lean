import Derived.Test.YtoiilplnhecokaaDoorKeC
import Derived.Test.YtoiilplnhecokaaDoorKeShelf
import Derived.Test.YtoiilplnhecokaaDoorDuB
import Derived.Test.YtoiilplnhecokaaDoorTrim
import Derived.Laws.MakeOwn
namespace Go.Proofs.YtoiilplnhecokaaDoor
namespace Ke
open Go.RowKit Go.Lib Go.Sort Go.Shelf
open TextMath (fold lo normal check)
open Du (PRow pV pV_len prow_at flatV_at flatV_len info_ava)
set_option linter.unusedVariables false
set_option linter.unusedSimpArgs false
set_option maxRecDepth 100000

set_option maxHeartbeats 1000000 in
theorem closure_any (x y : PR) (W : World) : Calls Tryd.prog 21 #[.agg #[.string (S x.1), .string (S x.2)], .agg #[.string (S y.1), .string (S y.2)]] W fun e w' => e = .returned (.int .i64 (cfP x y)) ∧ ∃ q os', w' = grow (W.drewN q) os' := by
  have hcon : Hid (∀ W', Calls Tryd.prog 22 #[.string (S x.1), .string (S y.1)] W' fun e w' => e = .returned (.int .i64 (cfP x y)) ∧ w' = W') := fun W' => by
    have := Tryd.strings_Compare (S x.1) (S y.1) W'
    rw [S_l, S_l] at this
    exact this
  generalize cfP x y = r at *
  generalize S x.1 = x1 at *
  generalize S x.2 = x2 at *
  generalize S y.1 = y1 at *
  generalize S y.2 = y2 at *
  go_enter Tryd.func21, Tryd.ntmps21
  go_wp2_with (go_at_call 22; refine (hcon.out _).mono ?_; rintro e w' ⟨rfl, rfl⟩)
  go_ret
  exact ⟨rfl, 0, _, by rw [alloc_eq_grow, alloc_eq_grow, grow_grow]; rfl⟩
theorem cmpLays (blk off size : Nat) (w : World) : CmpLays Tryd.prog 21 #[] pV 2 cfP blk off size w := fun _ _ _ _ x y => closure_any x y _
theorem enter_cl : ∀ args W, (callFunc 21 args).run Tryd.prog W = .ok (.enter 21 args) W := enters_of Tryd.func21 (by kernel_rfl) rfl
set_option maxHeartbeats 2000000 in
/-- slices.SortFunc over a part's pairs. -/
theorem sort_any (g n : Nat) (qs : List PR) (w : World) (hn : qs.length = n) (hH : HoldsK pV 2 w g 0 qs.toArray) (hg : g < w.heap.size) (h8 : n ≤ 8) :
    Calls Tryd.prog 20 #[.slice (some ⟨g, 0, none⟩) n n, .func (.func 21) #[] #[]] w fun e w' => e = .returned (.tuple #[]) ∧ ∃ m os, w' = sortWorldK pV 2 w g 0 m (srtP qs).toArray os := by
  subst hn
  have hp : Hid (∀ lim : Int, Calls Tryd.prog 33 #[.slice (some ⟨g, 0, none⟩) qs.length qs.length, .int .i64 0, .int .i64 (qs.length : Int), .int .i64 lim, .func (.func 21) #[] #[]] w fun e w' => e = .returned (.tuple #[]) ∧ ∃ n os, w' = sortWorldK pV 2 w g 0 n (srtP qs).toArray os) := fun lim => by
    have := AnyQ.pdqsortCmpFunc_small Tryd.laysSF 2 Tryd.isAgg40 Tryd.sizeOf40 pV pV_len (fun x v hv => by simp [pV] at hv; rcases hv with rfl | rfl <;> rfl) cfP 21 #[] g 0 qs.length 0 qs.toArray.size lim qs.toArray w enter_cl (cmpLays _ _ _ _) hH hg (Nat.zero_le _) (Nat.le_refl _) (by simp; omega) (by simp; omega)
    have e : (srtP qs).toArray = Sort.insertionSort (ltOf cfP) qs.toArray 0 qs.toArray.size := by unfold srtP; simp
    rw [e]
    exact this
  have hl : Hid (∀ W, Calls Tryd.prog 34 #[.int .u64 (qs.length : Int)] W fun e w' => (∃ l : Int, e = .returned (.int .i64 l)) ∧ w' = W) := fun W => (Tryd.bits_Len (qs.length : Int) W (by omega) (by omega)).mono fun _ _ ⟨he, hw⟩ => ⟨⟨_, he⟩, hw⟩
  clear hH
  have nb : (qs.length : Int) ≤ 8 := by omega
  generalize qs.length = n at *
  go_enter Tryd.func20, Tryd.ntmps20
  go_wp2_with (first
    | (go_at_call 34; refine (hl.out _).mono ?_; rintro e w' ⟨⟨l, rfl⟩, rfl⟩)
    | (go_at_call 33; refine (hp.out _).mono ?_; rintro e w' ⟨rfl, m, os, rfl⟩))
  go_end0
  exact ⟨rfl, m, os, rfl⟩
/-- The block of a part's pairs. -/
def PB (W : World) (g : Nat) (qs : List PR) : Prop := W.heap[g]? = some (.cells (qs.flatMap pV).toArray 40 (0, 0))
theorem PB.lt {W : World} {g : Nat} {qs : List PR} (h : PB W g qs) : g < W.heap.size := (Array.getElem?_eq_some_iff.1 h).1
theorem PB.cell {W : World} {g : Nat} {qs : List PR} (h : PB W g qs) (i : Nat) (hi : i < qs.length) (j : Nat) (hj : j < 2) : W.cell? ⟨g, i * 2 + j, none⟩ = (pV qs[i])[j]? ∧ W.frozen? ⟨g, i * 2 + j, none⟩ = false := by
  constructor
  · rw [cell_of_row _ _ _ _ _ _ h]
    rw [← flatV_at pV 2 pV_len qs i hi j hj]
    simp
  · exact Go.frozen_of_row _ _ _ _ _ h
theorem PB.below {W W' : World} {g : Nat} {qs : List PR} (h : PB W g qs) (hb : Below W.heap.size W W') : PB W' g qs := by unfold PB; rw [hb.block g h.lt]; exact h
theorem flat_set (p : PR) : ∀ (qs : List PR) (i : Nat), i < qs.length → ((qs.flatMap pV).set (i * 2) (.string (S p.1))).set (i * 2 + 1) (.string (S p.2)) = (qs.set i p).flatMap pV
  | [], i, h => by simp at h
  | q :: qs, 0, _ => by simp [pV]
  | q :: qs, i + 1, h => by
    have ih := flat_set p qs i (by simpa using h)
    rw [List.set_cons_succ, List.flatMap_cons, List.flatMap_cons, ← ih]
    have e : (i + 1) * 2 = i * 2 + 2 := by omega
    rw [e]
    simp [pV]
theorem PB.put {W : World} {g : Nat} {qs : List PR} (h : PB W g qs) (i : Nat) (hi : i < qs.length) (p : PR) : PB ((W.setCell ⟨g, i * 2, none⟩ (.string (S p.1))).setCell ⟨g, i * 2 + 1, none⟩ (.string (S p.2))) g (qs.set i p) := by
  have h1 := Go.heap_setCell_same W g (i * 2) _ _ (.string (S p.1)) h
  have h2 := Go.heap_setCell_same _ g (i * 2 + 1) _ _ (.string (S p.2)) h1
  unfold PB
  rw [h2, ← flat_set p qs i hi]
  simp
theorem PB.holds {W : World} {g : Nat} {qs : List PR} (h : PB W g qs) : HoldsK pV 2 W g 0 qs.toArray := by
  intro j hj
  rw [size_flatK] at hj
  have hj' : j < qs.length * 2 := by simpa using hj
  have hq : j / 2 < qs.length := by omega
  have hr : j % 2 < 2 := by omega
  obtain ⟨h1, h2⟩ := h.cell (j / 2) hq (j % 2) hr
  have e : j / 2 * 2 + j % 2 = j := by omega
  rw [e] at h1 h2
  rw [Nat.zero_add]
  refine ⟨?_, h2⟩
  rw [h1, get_flatK _ _ _ _ (by simpa using hj')]
  have e2 : qs.toArray[j / 2]! = qs[j / 2] := by rw [getElem!_pos _ _ (by simpa using hq)]; simp
  rw [e2, List.getElem?_eq_getElem (by rw [pV_len]; exact hr), getElem!_pos _ _ (by rw [pV_len]; exact hr)]
  rfl
/-- What stands behind the sort. -/
theorem sorted_row {w : World} {g m : Nat} {qs : List PR} {os : Array Obj} (h : PB w g qs) : PRow (sortWorldK pV 2 w g 0 m (srtP qs).toArray os) (some ⟨g, 0, none⟩) (srtP qs) := by
  have hl := (srt_holds qs).2.1
  have hH := holdsK_sortWorldK_c (enc := pV) (k := 2) (w := w) (blk := g) (off := 0) qs.toArray (srtP qs).toArray m os h.holds h.lt (by simpa using hl)
  intro i hi
  refine ⟨g, 0, rfl, fun j hj => ?_⟩
  have := (hH.cell (i := i) (c := j) (by simpa using hi) hj).1
  rw [this]
  have e2 : (srtP qs).toArray[i]! = (srtP qs)[i] := by rw [getElem!_pos _ _ (by simpa using hi)]; simp
  rw [e2, List.getElem?_eq_getElem (by rw [pV_len]; exact hj), getElem!_pos _ _ (by rw [pV_len]; exact hj)]
theorem sorted_below {w : World} {g m : Nat} {d : Array PR} {os : Array Obj} (hg : g < w.heap.size) : Below g w (sortWorldK pV 2 w g 0 m d os) := by
  refine ⟨rfl, rfl, rfl, size_sortWorldK_c _ _ _ _ _ _ _ _, fun k hk => ?_⟩
  unfold sortWorldK grow putRowK putRow mapBlock
  simp only
  rw [Array.getElem?_append_left (by simp [ahead]; omega)]
  rw [Array.getElem?_modify]
  simp [ahead]
  intro e
  omega
theorem make_rdn (n : Nat) (hn : n ≤ 8) (W : World) : (Instr.makeSlice 36 (.int .i64 (n : Int)) (.int .i64 (n : Int))).run Tryd.prog W = .ok (.slice (some ⟨W.heap.size, 0, none⟩) n n) (W.alloc (.cells ((List.replicate n (([], []) : PR)).flatMap pV).toArray 40)) := by
  obtain ⟨i0, hi, hz0, hz1, hz2⟩ := info_parts info_ava
  have hr := run_make (P := Tryd.prog) W 36 40 i0 _ Tryd.underlying36 hi hz0 .i64 .i64 n n (by omega) (Int.le_refl _) (by rw [hz2]; omega) (by omega)
  rw [hr]
  simp only [Int.toNat_natCast, hz1]
  congr 3
  apply Array.ext
  · simp [size_madeCells, flatV_len pV 2 pV_len]
  · intro i h1 h2
    have hi2 : i < n * 2 := by simpa [size_madeCells] using h1
    have hq : i / 2 < n := by omega
    have e : i / 2 * 2 + i % 2 = i := by omega
    have h3 := flatV_at pV 2 pV_len (List.replicate n (([], []) : PR)) (i / 2) (by simpa using hq) (i % 2) (by omega)
    rw [e] at h3
    rw [List.getElem_replicate] at h3
    have h4 : (((List.replicate n (([], []) : PR)).flatMap pV).toArray)[i] = Value.string ⟨#[]⟩ := by
      have h5 : (pV (([], []) : PR))[i % 2]? = some (Value.string ⟨#[]⟩) := by
        have : i % 2 = 0 ∨ i % 2 = 1 := by omega
        rcases this with q | q <;> rw [q] <;> rfl
      rw [h5] at h3
      have := List.getElem?_eq_some_iff.1 h3
      obtain ⟨_, h6⟩ := this
      simpa using h6
    rw [h4]
    simp [madeCells]
    have : i % 2 = 0 ∨ i % 2 = 1 := by omega
    rcases this with q | q <;> simp [q, Value.cells]
theorem nm_len : ∀ i : Fin 62, (rowL i).1.data.toList.length ≤ 64 := by decide +kernel
theorem tyC_len (s : List UInt8) : (tyC s).length ≤ s.length + 64 := by
  unfold tyC tyR parsT
  split
  · show (canN (S (fold s))).data.toList.length ≤ _
    unfold canN
    split
    · rw [S_l, fold_len]; omega
    · rename_i i _
      have := nm_len i
      omega
  · simp
theorem sum_le (l : List PR) (M : Nat) (h : ∀ x ∈ l, ptW x ≤ M) : (l.map ptW).sum ≤ l.length * M := by
  induction l with
  | nil => simp
  | cons x l ih =>
    have h1 := h x (by simp)
    have h2 := ih (fun y hy => h y (by simp [hy]))
    rw [List.map_cons, List.sum_cons, List.length_cons, Nat.succ_mul]
    omega
end Ke
end Go.Proofs.YtoiilplnhecokaaDoor
