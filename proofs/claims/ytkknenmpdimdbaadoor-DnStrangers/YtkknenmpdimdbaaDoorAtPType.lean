import Derived.Test.YtkknenmpdimdbaaDoorAtCanon
import Derived.Test.YtkknenmpdimdbaaDoorAtRead2
namespace Go.Proofs.YtkknenmpdimdbaaDoor
open Go.RowKit
open TextMath (fold lo)

/-- What ParseType answers of a folded text: the canonical type, the error, the place. -/
def parsT (f : ByteArray) : ByteArray × Int × Nat := if (typE f.data.toList).2 = true ∧ ¬ (typE f.data.toList).1 < f.size then (canN f, 0, (typE f.data.toList).1) else (⟨#[]⟩, 40, (typE f.data.toList).1)
set_option maxRecDepth 100000 in
set_option maxHeartbeats 1000000 in
theorem parseType_any (s : ByteArray) (w : World) (hs : s.size ≤ 140737488355328) :
    Calls Tryd.prog 30 #[.string s] w fun e w' => e = .returned (.tuple #[.string (parsT (S (fold s.data.toList))).1, .int .i64 (parsT (S (fold s.data.toList))).2.1, .int .i64 ((parsT (S (fold s.data.toList))).2.2 : Int)]) ∧ Below w.heap.size w w' := by
  obtain ⟨f, hf⟩ : ∃ f, S (fold s.data.toList) = f := ⟨_, rfl⟩
  have hF : Hid (Calls Tryd.prog 46 #[.string s] w fun e w' => e = .returned (.string f) ∧ Below w.heap.size w w') := by
    have h := fold_any s w (by unfold maxLen; omega)
    rw [hf] at h
    exact h
  have hfs : f.size ≤ 140737488355328 := by
    rw [← hf, S_size]
    unfold fold
    rw [List.length_map, size_l]
    exact hs
  have hfz : Hid (f.size ≤ maxLen) := by unfold Hid maxLen; omega
  rw [hf]
  clear hf
  obtain ⟨r, hr⟩ : ∃ r, parsT f = r := ⟨_, rfl⟩
  rw [hr]
  unfold parsT at hr
  have hT : ∀ W, Hid (Calls Tryd.prog 47 #[.string f] W fun e w' => e = .returned (.tuple #[.int .i64 ((typE f.data.toList).1 : Int), .bool (typE f.data.toList).2]) ∧ w' = W) := fun W => typeEnd_any f W hfs
  obtain ⟨p, hp⟩ : ∃ p, (typE f.data.toList).1 = p := ⟨_, rfl⟩
  obtain ⟨b, hb⟩ : ∃ b, (typE f.data.toList).2 = b := ⟨_, rfl⟩
  rw [hp, hb] at hr
  rw [hp, hb] at hT
  clear hp hb
  by_cases hok : b = true ∧ ¬ p < f.size
  · rw [if_pos hok] at hr
    have hfin : Hid (r = (canN f, 0, p)) := hr.symm
    obtain ⟨rfl, hnp⟩ := hok
    clear hr
    go_enter Tryd.func30, Tryd.ntmps30
    go_wp2_with fail
    refine hF.out.mono ?_
    rintro e W1 ⟨rfl, hb1⟩
    have hb1' : Hid (Below w.heap.size w W1) := hb1
    have hT1 := hT W1
    clear hT hF hb1
    go_wp2_with fail
    refine hT1.out.mono ?_
    rintro e W1' ⟨rfl, hW1⟩
    obtain ⟨W2, hW2⟩ : ∃ W2, W1.alloc (.cells #[.string f] 9) = W2 := ⟨_, rfl⟩
    have hB2 : Below W1.heap.size W1 W2 := by rw [← hW2]; exact (Below.refl _ _).alloc (Nat.le_refl _) _
    have hc2 : W2.cell? ⟨W1.heap.size, 0, none⟩ = some (.string f) := by rw [← hW2]; exact (row_cell (heap_alloc_last W1 _) (j := 0) (by simp)).1
    have hOB := openBook_one f W1.heap.size W2 hc2
    have hH2 : Hid (Below w.heap.size w W2) := hb1'.out.trans (hB2.mono hb1'.out.size)
    subst hW1
    clear hT1 hb1' hB2 hc2
    go_wp2_with fail
    refine hOB.mono ?_
    rintro e W3 ⟨B, cs, hB, rfl, hcs, hcz, hco, hlast, hM3, hB3⟩
    have st := st_book W3 cs hcz hco
    obtain ⟨W4, hW4⟩ : ∃ W4, W3.alloc (.cells cs 109) = W4 := ⟨_, rfl⟩
    rw [hW4] at st
    have hB4 : Below W3.heap.size W3 W4 := by rw [← hW4]; exact (Below.refl _ _).alloc (Nat.le_refl _) _
    have hb4 : W4.heap[W3.heap.size]? = some (.cells cs 109 (0, 0)) := by rw [← hW4]; exact heap_alloc_last W3 _
    have hM4 : W4.ownsMap Tryd.prog 9 (plainElem (H := Nat) Tryd.prog 3) B 186 (mapD [f] (upF 62)) := by
      have h := hM3.out.kept (World.grownBy_alloc W3 (.cells cs 109) none) (by simp)
      rw [hW4] at h
      exact h
    have hbk4 : Book W4 W3.heap.size B := by unfold Book; rw [hcs.out]; exact hb4
    have hH4 : Hid (Below w.heap.size w W4) := by
      have h3 : Below W2.heap.size W2 W4 := hB3.trans (hB4.mono hB3.size)
      exact hH2.out.trans (h3.mono hH2.out.size)
    have hC : Hid (Calls Tryd.prog 49 #[.pointer (some ⟨W3.heap.size, 0, none⟩), .string f] W4 fun e w' => e = .returned (.string (canN f)) ∧ w' = W4) := canonical_any f W3.heap.size B W4 hbk4 hM4 hfz.out
    clear hM3 hB3 hB4 hb4 hH2 hOB hW4 hW2 hco hlast hM4 hbk4 hcs hB
    go_wp2_with fail
    refine hC.out.mono ?_
    rintro e W5 ⟨rfl, hW5⟩
    subst hW5
    clear st hcz hC
    go_wp2_with fail
    go_ret3
    exact ⟨by rw [hfin.out]; rfl, hH4.out⟩
  · rw [if_neg hok] at hr
    have hfin : Hid (r = (⟨#[]⟩, 40, p)) := hr.symm
    clear hr
    go_enter Tryd.func30, Tryd.ntmps30
    go_wp2_with fail
    refine hF.out.mono ?_
    rintro e W1 ⟨rfl, hb1⟩
    have hb1' : Hid (Below w.heap.size w W1) := hb1
    have hT1 := hT W1
    clear hT hF hb1
    go_wp2_with fail
    refine hT1.out.mono ?_
    rintro e W1' ⟨rfl, hW1⟩
    subst hW1
    clear hT1
    cases b with
    | false =>
      clear hok
      go_wp2_with fail
      go_ret3
      exact ⟨by rw [hfin.out]; rfl, hb1'.out⟩
    | true =>
      have hlt : p < f.size := by
        rcases Nat.lt_or_ge p f.size with h | h
        · exact h
        · exact absurd ⟨rfl, by omega⟩ hok
      clear hok
      go_wp2_with fail
      go_ret3
      exact ⟨by rw [hfin.out]; rfl, hb1'.out⟩
end Go.Proofs.YtkknenmpdimdbaaDoor
