import Derived.Test.YteiikipldejeeaaDoorAtLin
import Derived.Test.YteiikipldejeeaaDoorAtPType
import Derived.Test.YteiikipldejeeaaDoorAtSet
import Derived.Test.YteiikipldejeeaaDoorAtDesc
namespace Go.Proofs.YteiikipldejeeaaDoor
open Go.RowKit
open TextMath (fold lo)
set_option linter.unusedVariables false

theorem ext_full (s : ByteArray) : s.extract 0 s.size = s := by
  have h : (s.extract 0 s.size).data.toList = s.data.toList := by
    rw [Lib.extract_data]
    simp
    rw [List.take_of_length_le]
    rw [size_l]
    exact Nat.le_refl _
  rw [← S_of (s.extract 0 s.size), h, S_of]
theorem ownS_base {w : World} {B B' : Nat} {v : Value} {l : List (List UInt8)} (h : OwnS w B v l) (hB : B' ≤ B) : OwnS w B' v l := by
  rcases h with ⟨h1, ⟨rfl, h2⟩ | ⟨g, cap, cur, rfl, h3, h4⟩⟩
  · exact ⟨h1, Or.inl ⟨rfl, h2⟩⟩
  · exact ⟨h1, Or.inr ⟨g, cap, cur, rfl, Nat.le_trans hB h3, h4⟩⟩
/-- A text that is a type and nothing else. -/
def Typ (f : ByteArray) : Prop := (typE f.data.toList).1 = f.size ∧ (typE f.data.toList).2 = true

set_option maxRecDepth 100000 in
set_option maxHeartbeats 1000000 in
theorem readType_any (f : ByteArray) (w : World) (hs : f.size ≤ 140737488355328) (hT : Typ f) :
    Calls Tryd.prog 17 #[.string f] w fun e w' => e = .returned (.tuple #[.string f, .slice none 0 0, .int .i64 (f.size : Int), .bool true]) ∧ w' = w := by
  have hc := typeEnd_any f w hs
  rw [hT.1, hT.2] at hc
  have n0 : (0 : Int) ≤ (f.size : Int) := Int.natCast_nonneg _
  clear hT
  go_enter Tryd.func17, Tryd.ntmps17
  go_wp2_with (go_at_call 28; refine hc.mono ?_; rintro e w' ⟨rfl, rfl⟩)
  refine wp_loop_rounds 1 ?_
  rw [rounds_succ]
  go_wp2_with fail
  exact bodyPost_ret (results_tmp4 rfl _ _ _) rfl ⟨rfl, rfl⟩

/-- The book of one asked text, laid down: what the calls over it may lean on. -/
theorem fold_size (s : ByteArray) : (S (fold s.data.toList)).size = s.size := by
  rw [S_size]
  unfold fold
  rw [List.length_map, size_l]

/-- The syntax of a type. -/
def synN (f : ByteArray) : Int := match rowOf f with
  | none => 0
  | some i => SYN.getD i.1 0
theorem field_book (B : Nat) (W : World) : (Instr.field 53 (.agg (bkC B (upF 62))) 1).run Tryd.prog W = .ok (.map (some B)) W := by kernel_rfl

set_option maxRecDepth 100000 in
set_option maxHeartbeats 1000000 in
theorem syntaxT_any (s f : ByteArray) (hf : S (fold s.data.toList) = f) (w : World) (hs : s.size ≤ 140737488355328) (hT : Typ f) (hY : SynTab w) :
    Calls Tryd.prog 10 #[.string s] w fun e w' => e = .returned (.int .i64 (synN f)) ∧ Below w.heap.size w w' := by
  have hF : Hid (Calls Tryd.prog 14 #[.string s] w fun e w' => e = .returned (.string f) ∧ Below w.heap.size w w') := by
    have h := fold_any s w (by unfold maxLen; omega)
    rw [hf] at h
    exact h
  have hfs : f.size ≤ 140737488355328 := by rw [← hf, fold_size]; exact hs
  have hR : ∀ W, Hid (Calls Tryd.prog 17 #[.string f] W fun e w' => e = .returned (.tuple #[.string f, .slice none 0 0, .int .i64 (f.size : Int), .bool true]) ∧ w' = W) := fun W => readType_any f W hfs hT
  have hkey : Hid (keyOf Tryd.prog 9 (.string f) = some (.string f.data.toList)) := key_str f (by unfold maxLen; omega)
  have hY' : Hid (SynTab w) := hY
  have hV : Hid (View (mapD [f] (upF 62)) f (rowOf f)) := view_all [f] f (by simp)
  clear hf hT hY hfs
  go_enter Tryd.func10, Tryd.ntmps10
  go_wp2_with fail
  refine hF.out.mono ?_
  rintro e W1 ⟨rfl, hb1⟩
  have hb1' : Hid (Below w.heap.size w W1) := hb1
  have hR1 := hR W1
  clear hR hF hb1
  go_wp2_with fail
  refine hR1.out.mono ?_
  rintro e W1' ⟨rfl, hW1⟩
  subst hW1
  obtain ⟨W2, hW2⟩ : ∃ W2, W1'.alloc (.cells #[.string f] 9) = W2 := ⟨_, rfl⟩
  have hB2 : Below W1'.heap.size W1' W2 := by rw [← hW2]; exact (Below.refl _ _).alloc (Nat.le_refl _) _
  have hc2 : W2.cell? ⟨W1'.heap.size, 0, none⟩ = some (.string f) := by rw [← hW2]; exact (row_cell (heap_alloc_last W1' _) (j := 0) (by simp)).1
  have hOB := openBook_one f W1'.heap.size W2 hc2
  have hH2 : Hid (Below w.heap.size w W2) := hb1'.out.trans (hB2.mono hb1'.out.size)
  clear hR1 hb1' hB2 hc2
  go_wp2_with fail
  refine hOB.mono ?_
  rintro e W3 ⟨B, cs, hB, rfl, hcs, hcz, hco, hlast, hM3, hB3⟩
  have hfb : (Instr.field 53 (.agg cs) 1).run Tryd.prog W3 = .ok (.map (some B)) W3 := by rw [← hcs.out]; exact field_book B W3
  have hH3 : Hid (Below w.heap.size w W3) := hH2.out.trans (hB3.mono hH2.out.size)
  obtain ⟨D, hD⟩ : ∃ D, mapD [f] (upF 62) = D := ⟨_, rfl⟩
  rw [hD] at hV hM3
  clear hD hcs hco hlast hB3 hH2 hOB hW2 hB
  cases hrow : rowOf f with
  | none =>
    have hhas' : Maps.has D (.string f.data.toList) = false := by have := hV.out.2.1; rw [hrow] at this; exact this
    have hfin : Hid (synN f = 0) := by unfold Hid synN; rw [hrow]
    clear hV
    go_wp2_with (at_lookup; refine wpList_lookup_own_ok_int _ rfl _ _ 51 rfl 9 3 .i64 (Maps.string_keyed Tryd.underlying9) Tryd.underlying51 Tryd.underlying3 (Tryd.zeroValue3 _) B 186 D rfl hM3.out _ _ rfl hkey.out ?_; intro c hatc hwc)
    go_ret
    exact ⟨by rw [hfin.out]; rfl, hH3.out⟩
  | some i =>
    have hhas' : Maps.has D (.string f.data.toList) = true := by have := hV.out.2.1; rw [hrow] at this; exact this
    have hati' : Hid (D.atKey (.string f.data.toList) (.lit (.int .i64 0)) = .lit (.int .i64 (i.1 : Int))) := hV.out.2.2 i hrow _
    have hfin : Hid (synN f = SYN.getD i.1 0) := by unfold Hid synN; rw [hrow]
    have qs := (hY'.out.below hH3.out) i.1 i.2
    have i0 : (0 : Int) ≤ (i.1 : Int) := Int.natCast_nonneg _
    have i1 : (i.1 : Int) < 62 := by have := i.2; omega
    clear hV
    go_wp2_with (at_lookup; refine wpList_lookup_own_ok_int _ rfl _ _ 51 rfl 9 3 .i64 (Maps.string_keyed Tryd.underlying9) Tryd.underlying51 Tryd.underlying3 (Tryd.zeroValue3 _) B 186 D rfl hM3.out _ _ rfl hkey.out ?_; intro c hatc hwc; obtain rfl : c = (i.1 : Int) := (by rw [hati'.out] at hatc; injection hatc with hatc; injection hatc with _ hatc; exact hatc.symm))
    go_ret
    exact ⟨by rw [hfin.out]; rfl, hH3.out⟩
end Go.Proofs.YteiikipldejeeaaDoor
