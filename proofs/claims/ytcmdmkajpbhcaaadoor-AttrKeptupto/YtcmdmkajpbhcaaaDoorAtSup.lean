import Derived.Test.YtcmdmkajpbhcaaaDoorAtLin
import Derived.Test.YtcmdmkajpbhcaaaDoorAtPType
import Derived.Test.YtcmdmkajpbhcaaaDoorAtSet
import Derived.Test.YtcmdmkajpbhcaaaDoorAtDesc
namespace Go.Proofs.YtcmdmkajpbhcaaaDoor
open Go.RowKit
open TextMath (fold lo)
set_option linter.unusedVariables false

theorem ext_full (s : ByteArray) : s.extract 0 s.size = s := by
  have h : (s.extract 0 s.size).data.toList = s.data.toList := by
    rw [Lib.extract_data]
    simp
    rw [List.take_of_length_le]
    rw [size_l]
    exact Nat.le_refl _
  rw [← S_of (s.extract 0 s.size), h, S_of]
theorem ownS_base {w : World} {B B' : Nat} {v : Value} {l : List (List UInt8)} (h : OwnS w B v l) (hB : B' ≤ B) : OwnS w B' v l := by
  rcases h with ⟨h1, ⟨rfl, h2⟩ | ⟨g, cap, cur, rfl, h3, h4⟩⟩
  · exact ⟨h1, Or.inl ⟨rfl, h2⟩⟩
  · exact ⟨h1, Or.inr ⟨g, cap, cur, rfl, Nat.le_trans hB h3, h4⟩⟩
/-- A text that is a type and nothing else. -/
def Typ (f : ByteArray) : Prop := (typE f.data.toList).1 = f.size ∧ (typE f.data.toList).2 = true

set_option maxRecDepth 100000 in
set_option maxHeartbeats 1000000 in
theorem readType_any (f : ByteArray) (w : World) (hs : f.size ≤ 140737488355328) (hT : Typ f) :
    Calls Tryd.prog 11 #[.string f] w fun e w' => e = .returned (.tuple #[.string f, .slice none 0 0, .int .i64 (f.size : Int), .bool true]) ∧ w' = w := by
  have hc := typeEnd_any f w hs
  rw [hT.1, hT.2] at hc
  have n0 : (0 : Int) ≤ (f.size : Int) := Int.natCast_nonneg _
  clear hT
  go_enter Tryd.func11, Tryd.ntmps11
  go_wp2_with (go_at_call 25; refine hc.mono ?_; rintro e w' ⟨rfl, rfl⟩)
  refine wp_loop_rounds 1 ?_
  rw [rounds_succ]
  go_wp2_with fail
  exact bodyPost_ret (results_tmp4 rfl _ _ _) rfl ⟨rfl, rfl⟩

/-- The book of one asked text, laid down: what the calls over it may lean on. -/
theorem fold_size (s : ByteArray) : (S (fold s.data.toList)).size = s.size := by
  rw [S_size]
  unfold fold
  rw [List.length_map, size_l]

set_option maxRecDepth 100000 in
set_option maxHeartbeats 1000000 in
theorem supers_any (s : ByteArray) (w : World) (hs : s.size ≤ 140737488355328) (hS : SupTab w) :
    Calls Tryd.prog 5 #[.string s] w fun e w' => ∃ v, e = .returned v ∧ OwnS w' w.heap.size v (lin (S (fold s.data.toList))) ∧ Below w.heap.size w w' := by
  obtain ⟨f, hf⟩ : ∃ f, S (fold s.data.toList) = f := ⟨_, rfl⟩
  have hF : Hid (Calls Tryd.prog 12 #[.string s] w fun e w' => e = .returned (.string f) ∧ Below w.heap.size w w') := by
    have h := fold_any s w (by unfold maxLen; omega)
    rw [hf] at h
    exact h
  have hfz : Hid (f.size ≤ maxLen) := by unfold Hid; rw [← hf, fold_size]; unfold maxLen; omega
  have hS' : Hid (SupTab w) := hS
  rw [hf]
  clear hf hS
  go_enter Tryd.func5, Tryd.ntmps5
  go_wp2_with fail
  refine hF.out.mono ?_
  rintro e W1 ⟨rfl, hb1⟩
  have hb1' : Hid (Below w.heap.size w W1) := hb1
  obtain ⟨W2, hW2⟩ : ∃ W2, W1.alloc (.cells #[.string f] 9) = W2 := ⟨_, rfl⟩
  have hB2 : Below W1.heap.size W1 W2 := by rw [← hW2]; exact (Below.refl _ _).alloc (Nat.le_refl _) _
  have hc2 : W2.cell? ⟨W1.heap.size, 0, none⟩ = some (.string f) := by rw [← hW2]; exact (row_cell (heap_alloc_last W1 _) (j := 0) (by simp)).1
  have hOB := openBook_one f W1.heap.size W2 hc2
  have hH2 : Hid (Below w.heap.size w W2) := hb1'.out.trans (hB2.mono hb1'.out.size)
  clear hF hb1 hb1' hB2 hc2
  go_wp2_with fail
  refine hOB.mono ?_
  rintro e W3 ⟨B, cs, hB, rfl, hcs, hcz, hco, hlast, hM3, hB3⟩
  have st := st_book W3 cs hcz hco
  obtain ⟨W4, hW4⟩ : ∃ W4, W3.alloc (.cells cs 49) = W4 := ⟨_, rfl⟩
  rw [hW4] at st
  have hB4 : Below W3.heap.size W3 W4 := by rw [← hW4]; exact (Below.refl _ _).alloc (Nat.le_refl _) _
  have hb4 : W4.heap[W3.heap.size]? = some (.cells cs 49 (0, 0)) := by rw [← hW4]; exact heap_alloc_last W3 _
  have hM4 : W4.ownsMap Tryd.prog 9 (plainElem (H := Nat) Tryd.prog 3) B 186 (mapD [f] (upF 62)) := by
    have h := hM3.out.kept (World.grownBy_alloc W3 (.cells cs 49) none) (by simp)
    rw [hW4] at h
    exact h
  have hbk4 : Book W4 W3.heap.size B := by unfold Book; rw [hcs.out]; exact hb4
  have hH4 : Hid (Below w.heap.size w W4) := by
    have h3 : Below W2.heap.size W2 W4 := hB3.trans (hB4.mono hB3.size)
    exact hH2.out.trans (h3.mono hH2.out.size)
  have hL := lineage_any [f] f (by simp) W3.heap.size B W4 hbk4 hM4 hfz.out (hS'.out.below hH4.out)
  clear hM3 hB3 hB4 hb4 hH2 hOB hW4 hW2 hco hlast hM4 hbk4 hcs hB
  go_wp2_with fail
  refine hL.mono ?_
  rintro e W5 ⟨v, rfl, hO, hb5⟩
  have hfin : Hid (OwnS W5 w.heap.size v (lin f) ∧ Below w.heap.size w W5) := ⟨ownS_base hO hH4.out.size, hH4.out.trans (hb5.mono hH4.out.size)⟩
  clear st hcz hL hO hb5
  obtain ⟨va, vc, rfl, _⟩ := ownS_trow hfin.out.1
  go_wp2_with fail
  go_ret
  exact ⟨_, rfl, hfin.out⟩

/-- The syntax of a type. -/
def synN (f : ByteArray) : Int := match rowOf f with
  | none => 0
  | some i => SYN.getD i.1 0
theorem field_book (B : Nat) (W : World) : (Instr.field 49 (.agg (bkC B (upF 62))) 1).run Tryd.prog W = .ok (.map (some B)) W := by kernel_rfl

end Go.Proofs.YtcmdmkajpbhcaaaDoor
