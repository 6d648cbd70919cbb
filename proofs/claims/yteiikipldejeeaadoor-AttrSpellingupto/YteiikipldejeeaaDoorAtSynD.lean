import Derived.Test.YteiikipldejeeaaDoorAtCovD
namespace Go.Proofs.YteiikipldejeeaaDoor
open Go.RowKit
open TextMath (fold lo)
set_option linter.unusedVariables false

/-- The syntax of a description. -/
def synD (f : ByteArray) : Int := if (desc f).2.2 = true then synN (typD f) else 0
set_option maxRecDepth 100000 in
set_option maxHeartbeats 1000000 in
theorem syntaxD_any (s f : ByteArray) (hf : S (fold s.data.toList) = f) (w : World) (hs : s.size ≤ 4194304) (hY : SynTab w) :
    Calls Tryd.prog 10 #[.string s] w fun e w' => e = .returned (.int .i64 (synD f)) ∧ Below w.heap.size w w' := by
  have hF : Hid (Calls Tryd.prog 14 #[.string s] w fun e w' => e = .returned (.string f) ∧ Below w.heap.size w w') := by
    have h := fold_any s w (by unfold maxLen; omega)
    rw [hf] at h
    exact h
  have hfs : f.size ≤ 4194304 := by rw [← hf, fold_size]; exact hs
  have hR : ∀ W, Hid (Calls Tryd.prog 17 #[.string f] W fun r w' => DescQ w' W.heap.size (typD f) (desc f) r ∧ Below W.heap.size W w') := fun W => desc_any f W hfs
  have hkey : Hid (keyOf Tryd.prog 9 (.string (typD f)) = some (.string (typD f).data.toList)) := key_str (typD f) (by
    unfold maxLen typD
    simp only [ByteArray.size_extract]
    omega)
  have hY' : Hid (SynTab w) := hY
  have hV : Hid (View (mapD [typD f] (upF 62)) (typD f) (rowOf (typD f))) := view_all [typD f] (typD f) (by simp)
  obtain ⟨ans, hans0⟩ : ∃ ans, synD f = ans := ⟨_, rfl⟩
  rw [hans0]
  unfold synD at hans0
  generalize typD f = X at *
  generalize desc f = E at *
  have hans1 : Hid ((if E.2.2 = true then synN X else 0) = ans) := hans0
  clear hf hY hfs hans0
  go_enter Tryd.func10, Tryd.ntmps10
  go_wp2_with fail
  refine hF.out.mono ?_
  rintro e W1 ⟨rfl, hb1⟩
  have hb10 : Hid (Below w.heap.size w W1) := hb1
  have hR1 := hR W1
  clear hR hF hb1
  go_wp2_with fail
  refine hR1.out.mono ?_
  rintro e W1' ⟨hQ, hb2⟩
  have hb1' : Hid (Below w.heap.size w W1') := hb10.out.trans (hb2.mono hb10.out.size)
  clear hb10 hb2 hR1
  rcases hQ with ⟨ok, v, rfl, hO⟩ | ⟨ok, rfl⟩
  · have hans : Hid (ans = synN X) := by
      have h := hans1.out
      rw [if_pos ok] at h
      exact h.symm
    clear hO ok hans1
    obtain ⟨W2, hW2⟩ : ∃ W2, W1'.alloc (.cells #[.string X] 9) = W2 := ⟨_, rfl⟩
    have hB2 : Below W1'.heap.size W1' W2 := by rw [← hW2]; exact (Below.refl _ _).alloc (Nat.le_refl _) _
    have hc2 : W2.cell? ⟨W1'.heap.size, 0, none⟩ = some (.string X) := by rw [← hW2]; exact (row_cell (heap_alloc_last W1' _) (j := 0) (by simp)).1
    have hOB := openBook_one X W1'.heap.size W2 hc2
    have hH2 : Hid (Below w.heap.size w W2) := hb1'.out.trans (hB2.mono hb1'.out.size)
    clear hb1' hB2 hc2
    go_wp2_with fail
    refine hOB.mono ?_
    rintro e W3 ⟨B, cs, hB, rfl, hcs, hcz, hco, hlast, hM3, hB3⟩
    have hfb : (Instr.field 53 (.agg cs) 1).run Tryd.prog W3 = .ok (.map (some B)) W3 := by rw [← hcs.out]; exact field_book B W3
    have hH3 : Hid (Below w.heap.size w W3) := hH2.out.trans (hB3.mono hH2.out.size)
    obtain ⟨D, hD⟩ : ∃ D, mapD [X] (upF 62) = D := ⟨_, rfl⟩
    rw [hD] at hV hM3
    clear hD hcs hco hlast hB3 hH2 hOB hW2 hB
    cases hrow : rowOf X with
    | none =>
      have hhas' : Maps.has D (.string X.data.toList) = false := by have := hV.out.2.1; rw [hrow] at this; exact this
      have hfin : Hid (synN X = 0) := by unfold Hid synN; rw [hrow]
      clear hV
      go_wp2_with (at_lookup; refine wpList_lookup_own_ok_int _ rfl _ _ 51 rfl 9 3 .i64 (Maps.string_keyed Tryd.underlying9) Tryd.underlying51 Tryd.underlying3 (Tryd.zeroValue3 _) B 186 D rfl hM3.out _ _ rfl hkey.out ?_; intro c hatc hwc)
      go_ret
      exact ⟨by rw [hans.out, hfin.out]; rfl, hH3.out⟩
    | some i =>
      have hhas' : Maps.has D (.string X.data.toList) = true := by have := hV.out.2.1; rw [hrow] at this; exact this
      have hati' : Hid (D.atKey (.string X.data.toList) (.lit (.int .i64 0)) = .lit (.int .i64 (i.1 : Int))) := hV.out.2.2 i hrow _
      have hfin : Hid (synN X = SYN.getD i.1 0) := by unfold Hid synN; rw [hrow]
      have qs := (hY'.out.below hH3.out) i.1 i.2
      have i0 : (0 : Int) ≤ (i.1 : Int) := Int.natCast_nonneg _
      have i1 : (i.1 : Int) < 62 := by have := i.2; omega
      clear hV
      go_wp2_with (at_lookup; refine wpList_lookup_own_ok_int _ rfl _ _ 51 rfl 9 3 .i64 (Maps.string_keyed Tryd.underlying9) Tryd.underlying51 Tryd.underlying3 (Tryd.zeroValue3 _) B 186 D rfl hM3.out _ _ rfl hkey.out ?_; intro c hatc hwc; obtain rfl : c = (i.1 : Int) := (by rw [hati'.out] at hatc; injection hatc with hatc; injection hatc with _ hatc; exact hatc.symm))
      go_ret
      exact ⟨by rw [hans.out, hfin.out]; rfl, hH3.out⟩
  · have hans : Hid (ans = 0) := by
      have h := hans1.out
      rw [if_neg (by rw [ok]; decide)] at h
      exact h.symm
    clear ok hans1 hV
    go_wp2_with fail
    go_ret
    exact ⟨by rw [hans.out]; rfl, hb1'.out⟩
end Go.Proofs.YteiikipldejeeaaDoor
