import Derived.Test.YtnboimoncpphlabDoorRfB
import Derived.Test.YtnboimoncpphlabDoorAtCback
import Derived.Test.YtnboimoncpphlabDoorAtSynD
namespace Go.Proofs.YtnboimoncpphlabDoor
open Go.RowKit
open TextMath (fold lo)
set_option linter.unusedVariables false

theorem canF (f : ByteArray) (hok : (desc f).2.2 = true) (hf : fold f.data.toList = f.data.toList) : fold (canN (typD f)).data.toList = (canN (typD f)).data.toList ∧ synN (canN (typD f)) = synN (typD f) ∧ lin (canN (typD f)) = lin (typD f) := by
  obtain ⟨i1, i2, i3, i4⟩ := desc_inv f hok
  have hb := (fold_id_iff _).1 hf
  have hft : fold (typD f).data.toList = (typD f).data.toList := (fold_id_iff _).2 (fun b q => hb b (by rw [i1]; exact List.mem_append_left _ q))
  obtain ⟨t1, t2, t3, t4, t5⟩ := can_type (typD f) i2 hft
  exact ⟨t2, t5, t4⟩
theorem can_sizeR (f : ByteArray) : (canN (typD f)).size ≤ f.size + 64 := by
  cases hr : rowOf (typD f) with
  | none =>
    rw [(lin_none _ hr).2]
    unfold typD
    rw [ByteArray.size_extract]
    omega
  | some i =>
    rw [← size_l, (lin_row _ i hr).2]
    have := nm_size i
    omega
set_option maxRecDepth 100000 in
set_option maxHeartbeats 1000000 in
theorem syntaxR_any (s f : ByteArray) (hf : S (fold s.data.toList) = f) (w : World) (hs : s.size ≤ 4194300) (hK : KndTab w) :
    Calls Tryd.prog 21 #[.string s] w fun e w' => e = .returned (.int .i64 (synD f)) ∧ Below w.heap.size w w' := by
  have hP := parseR_any s f hf w hs
  have hff : Hid (fold f.data.toList = f.data.toList) := by unfold Hid; rw [← hf, S_l]; exact TextMath.fold_fold _
  have hfs : Hid (f.size ≤ 4194300) := by unfold Hid; rw [← hf, fold_size]; exact hs
  have hK' : Hid (KndTab w) := hK
  clear hK hs hf
  go_enter Tryd.func21, Tryd.ntmps21
  go_wp2_with fail
  refine hP.mono ?_
  rintro e W1 ⟨hI, hb1⟩
  have o1 : Hid (Below w.heap.size w W1) := hb1
  clear hP hb1
  rcases hI with ⟨ok, a, r, c, rfl, hrow, hup, hmem, hrl⟩ | ⟨ok, rfl⟩
  · obtain ⟨c1, c2, c3⟩ := canF f ok hff.out
    have hR : ∀ W, Hid (Calls Tryd.prog 39 #[.string (canN (typD f))] W fun e w' => e = .returned (.int .i64 (rowN (canN (typD f)))) ∧ Below W.heap.size W w') := fun W => by
      have h := refRow_any (canN (typD f)) W (by have := can_sizeR f; have := hfs.out; omega)
      rw [c1, S_of] at h
      exact h
    have hsy : Hid (synD f = synN (canN (typD f))) := by unfold Hid synD; rw [if_pos ok, c2]
    obtain ⟨W2, hW2⟩ : ∃ W2, W1.alloc (.cells #[.string (canN (typD f)), .slice a r.length c] 30) = W2 := ⟨_, rfl⟩
    have hB2 : Below W1.heap.size W1 W2 := by rw [← hW2]; exact (Below.refl _ _).alloc (Nat.le_refl _) _
    have p2 : DescB W2 W1.heap.size (.string (canN (typD f))) (.slice a r.length c) := by unfold DescB; rw [← hW2]; exact heap_alloc_last W1 _
    have o2 : Hid (Below w.heap.size w W2) := o1.out.trans (hB2.mono o1.out.size)
    obtain ⟨⟨r0, f0⟩, ⟨r1, f1⟩⟩ := p2.cells
    have hR2 := hR W2
    generalize canN (typD f) = X at *
    clear hrow hup hmem hrl c1 c2 c3 p2 hB2 hR ok
    go_wp2_with fail
    refine hR2.out.mono ?_
    rintro e W3 ⟨rfl, hb3⟩
    have o3 : Hid (Below w.heap.size w W3) := o2.out.trans (hb3.mono o2.out.size)
    clear hR2 hb3 r0 f0 r1 f1 hW2
    cases hr : rowOf X with
    | none =>
      have hn : rowN X = -1 := by unfold rowN; rw [hr]
      have hz : Hid (synN X = 0) := by unfold Hid synN; rw [hr]
      rw [hn]
      clear hr hn
      go_wp2_with fail
      go_ret
      exact ⟨by rw [hsy.out, hz.out]; rfl, o3.out⟩
    | some i =>
      have hn : rowN X = (i.1 : Int) := by unfold rowN; rw [hr]
      have hz : Hid (synN X = SYN.getD i.1 0) := by unfold Hid synN; rw [hr]
      rw [hn]
      have hkn := (hK'.out.below o3.out) i.1 1 i.2 (by omega)
      rw [(num_at i).2.2.2.1] at hkn
      have i0 : (0 : Int) ≤ (i.1 : Int) := Int.natCast_nonneg _
      have i1 : (i.1 : Int) < 62 := by have := i.2; omega
      have i2 : ¬ (i.1 : Int) < 0 := by omega
      clear hr hn
      go_wp2_with fail
      go_ret
      exact ⟨by rw [hsy.out, hz.out]; rfl, o3.out⟩
  · have hz : Hid (synD f = 0) := by unfold Hid synD; rw [if_neg (by rw [ok]; decide)]
    have hB2 : Below W1.heap.size W1 (W1.alloc (.cells #[.string ⟨#[]⟩, .slice none 0 0] 30)) := (Below.refl _ _).alloc (Nat.le_refl _) _
    have o2 : Hid (Below w.heap.size w (W1.alloc (.cells #[.string ⟨#[]⟩, .slice none 0 0] 30))) := o1.out.trans (hB2.mono o1.out.size)
    obtain ⟨r0, f0⟩ := row_cell (heap_alloc_last W1 (.cells #[.string ⟨#[]⟩, .slice none 0 0] 30)) (j := 0) (by simp)
    obtain ⟨r1, f1⟩ := row_cell (heap_alloc_last W1 (.cells #[.string ⟨#[]⟩, .slice none 0 0] 30)) (j := 1) (by simp)
    simp only [List.getElem_toArray, List.getElem_cons_zero, List.getElem_cons_succ] at r0 r1
    clear ok hB2
    go_wp2_with fail
    go_ret
    exact ⟨by rw [hz.out]; rfl, o2.out⟩
theorem lin_small (f : ByteArray) : (lin f).length ≤ 4194304 := by
  unfold lin
  have h3 : (chn 3 (upN (noN f))).length ≤ 3 := chn_len ⟨upN (noN f), (up_lt ⟨noN f, noN_lt f⟩).2⟩
  simp only [List.length_cons]
  omega
set_option maxRecDepth 100000 in
set_option maxHeartbeats 1000000 in
theorem attrSyntaxes_walk (s : ByteArray) (w : World) (hs : s.size ≤ 1048576) (hK : KndTab w) (hS : SupTab w) (hY : SynTab w) :
    Calls Tryd.prog 6 #[.string s] w fun e w' => e = .returned (.bool true) ∧ Below w.heap.size w w' := by
  obtain ⟨f, hf⟩ : ∃ f, S (fold s.data.toList) = f := ⟨_, rfl⟩
  have h1 := syntaxD_any s f hf w (by omega) hY
  have hT : Hid (KndTab w ∧ SupTab w) := ⟨hK, hS⟩
  have h2 : ∀ W, Below w.heap.size w W → Hid (Calls Tryd.prog 21 #[.string s] W fun e w' => e = .returned (.int .i64 (synD f)) ∧ Below W.heap.size W w') := fun W hb => syntaxR_any s f hf W (by omega) (hT.out.1.below hb)
  have h3 : ∀ W, Below w.heap.size w W → Hid (Calls Tryd.prog 22 #[.string s] W fun e w' => ∃ v, e = .returned v ∧ OwnS w' W.heap.size v (lin f) ∧ Below W.heap.size W w') := fun W hb => by
    have h := supers_any s W (by omega) (hT.out.2.below hb)
    rw [hf] at h
    exact h
  have h4 : ∀ W, Below w.heap.size w W → Hid (Calls Tryd.prog 23 #[.string s] W fun e w' => LinQ w' (lin f) e ∧ Below W.heap.size W w') := fun W hb => by
    have h := supersR_any s W (by omega) (hT.out.1.below hb)
    rw [hf] at h
    exact h
  generalize synD f = y at *
  clear hK hS hY hf hs
  go_enter Tryd.func6, Tryd.ntmps6
  go_wp2_with fail
  refine h1.mono ?_
  rintro e W1 ⟨rfl, hb1⟩
  have o1 : Hid (Below w.heap.size w W1) := hb1
  have g2 := h2 W1 hb1
  clear h1 h2 hb1
  go_wp2_with fail
  refine g2.out.mono ?_
  rintro e W2 ⟨rfl, hb2⟩
  have o2 : Hid (Below w.heap.size w W2) := o1.out.trans (hb2.mono o1.out.size)
  have g3 := h3 W2 o2.out
  clear g2 h3 hb2
  go_wp2_with fail
  refine g3.out.mono ?_
  rintro e W3 ⟨v, rfl, hO, hb3⟩
  obtain ⟨va, vc, rfl, hrow⟩ := ownS_trow hO
  have hrow3 : Hid (Row W3 va (lin f)) := TRow.row hrow
  have o3 : Hid (Below w.heap.size w W3) := o2.out.trans (hb3.mono o2.out.size)
  have g4 := h4 W3 o3.out
  clear g3 h4 hb3 hO hrow
  go_wp2_with fail
  refine g4.out.mono ?_
  rintro e W4 ⟨⟨ra, rc, rfl, hr4⟩, hb4⟩
  have hSa := same04_loop (lin f) (lin f) va ra vc rc W4 rfl (lin_small f) (hrow3.out.below hb4) hr4
  rw [decide_eq_true rfl] at hSa
  have o4 : Hid (Below w.heap.size w W4) := o3.out.trans (hb4.mono o3.out.size)
  clear g4 hr4 hb4
  go_wp2_with fail
  refine hSa.mono ?_
  rintro e W5 ⟨rfl, q, hW5⟩
  have o5 : Hid (Below w.heap.size w W5) := by unfold Hid; rw [hW5]; exact o4.out.trans (drewN_belowS _ _ _)
  clear hSa hW5
  go_wp2_with fail
  go_ret
  exact ⟨rfl, o5.out⟩
end Go.Proofs.YtnboimoncpphlabDoor
