import Derived.Test.YtnboimoncpphlabDoorRfParse
import Derived.Test.YtnboimoncpphlabDoorRfSort
namespace Go.Proofs.YtnboimoncpphlabDoor
open Go.RowKit
open TextMath (fold lo)
set_option linter.unusedVariables false

def DescB (W : World) (g : Nat) (t v : Value) : Prop := W.heap[g]? = some (.cells #[t, v] 30 (0, 0))
theorem DescB.cells {W : World} {g : Nat} {t v : Value} (h : DescB W g t v) : (W.cell? ⟨g, 0, none⟩ = some t ∧ W.frozen? ⟨g, 0, none⟩ = false) ∧ (W.cell? ⟨g, 1, none⟩ = some v ∧ W.frozen? ⟨g, 1, none⟩ = false) := ⟨row_cell h (j := 0) (by simp), row_cell h (j := 1) (by simp)⟩
theorem DescB.lt {W : World} {g : Nat} {t v : Value} (h : DescB W g t v) : g < W.heap.size := (Array.getElem?_eq_some_iff.1 h).1
theorem DescB.of_block {W W' : World} {g : Nat} {t v : Value} (h : DescB W g t v) (e : W'.heap[g]? = W.heap[g]?) : DescB W' g t v := e.trans h
theorem Row.of_blocks {w w' : World} {a : Option Addr} {l : List (List UInt8)} (h : Row w a l) (hb : ∀ b off, a = some ⟨b, off, none⟩ → w'.heap[b]? = w.heap[b]?) : Row w' a l := fun i hi => by
  obtain ⟨b, off, e, h1⟩ := h i hi
  refine ⟨b, off, e, ?_⟩
  rw [World.cell?_of_block (w := w) (hb b off e)]
  exact h1
set_option maxRecDepth 100000 in
set_option maxHeartbeats 4000000 in
theorem parseR_any (s f : ByteArray) (hf : S (fold s.data.toList) = f) (w : World) (hs : s.size ≤ 4194300) :
    Calls Tryd.prog 38 #[.string s] w fun e w' => RParseIs w' s f e ∧ Below w.heap.size w w' := by
  obtain ⟨Wa, hWa⟩ : ∃ Wa, w.alloc (.cells #[.string ⟨#[]⟩, .slice none 0 0] 30) = Wa := ⟨_, rfl⟩
  have hBa : Below w.heap.size w Wa := by rw [← hWa]; exact (Below.refl _ _).alloc (Nat.le_refl _) _
  have pa : DescB Wa w.heap.size (.string ⟨#[]⟩) (.slice none 0 0) := by rw [← hWa]; exact heap_alloc_last w _
  have na : Hid (Wa.heap.size = w.heap.size + 1) := by unfold Hid; rw [← hWa, World.size_alloc]
  have hID : ∀ W, Hid (Calls Tryd.prog 53 #[.string s] W fun e w' => e = .returned (.bool (desc f).2.2) ∧ Below W.heap.size W w') := fun W => by
    have h := isDesc_any s W (by omega)
    have hd := (desc_dfa f).2
    rw [← hf, S_l, ← dsc_dfaB] at hd
    rw [← hf, hd]
    exact h
  have hPl : ∀ W, Hid (Calls Tryd.prog 54 #[.string s, .bool false] W fun e w' => e = .returned (.int .i64 ((desc f).2.1 : Int)) ∧ Below W.heap.size W w') := fun W => by
    have h := placeR_any s W hs
    have hd := (desc_dfa f).1
    rw [← hf, S_l] at hd
    rw [← hf, hd]
    exact h
  have hP : ∀ W, Hid (Calls Tryd.prog 55 #[.string s, .int .u8 59] W fun e w' => (∃ v, e = .returned v ∧ OwnS w' W.heap.size v (sp 59 s.data.toList)) ∧ Below W.heap.size W w') := fun W => parts_any s 59 W (by omega)
  have hH : Hid (DescB Wa w.heap.size (.string ⟨#[]⟩) (.slice none 0 0) ∧ Below w.heap.size w Wa) := ⟨pa, hBa⟩
  have hdp : Hid ((desc f).2.2 = true → (typD f).data.toList = fold ((sp 59 s.data.toList).headD []) ∧ (desc f).1 = (sp 59 s.data.toList).tail.map fold) := by
    unfold Hid
    rw [← hf]
    exact desc_parts s.data.toList
  have hsz : Hid ((sp 59 s.data.toList).length ≤ 4194301 ∧ (∀ z ∈ sp 59 s.data.toList, z.length ≤ 4194300) ∧ 0 < (sp 59 s.data.toList).length) := by
    refine ⟨?_, fun z hz => ?_, List.length_pos_iff.2 (sp_ne _ _)⟩
    · have := sp_count 59 s.data.toList; rw [size_l] at this; omega
    · have := sp_len 59 _ z hz; rw [size_l] at this; omega
  generalize sp 59 s.data.toList = Z at *
  clear hBa pa hf hs
  go_enter Tryd.func38, Tryd.ntmps38
  go_wp2_with fail
  refine (hID Wa).out.mono ?_
  rintro e W1 ⟨rfl, hb1⟩
  have p1 : Hid (DescB W1 w.heap.size (.string ⟨#[]⟩) (.slice none 0 0)) := hH.out.1.of_block (hb1.block _ hH.out.1.lt)
  have o1 : Hid (Below w.heap.size w W1) := hH.out.2.trans (hb1.mono hH.out.2.size)
  have n1 : Hid (w.heap.size + 1 ≤ W1.heap.size) := by have := na.out; have := hb1.size; unfold Hid; omega
  clear hID hb1 hH hWa
  obtain ⟨ok, hok⟩ : ∃ ok, (desc f).2.2 = ok := ⟨_, rfl⟩
  have hok' : Hid ((desc f).2.2 = ok) := hok
  rw [hok]
  clear hok
  cases ok with
  | false =>
    have hPl1 := hPl W1
    clear hPl hP hdp
    go_wp2_with fail
    refine hPl1.out.mono ?_
    rintro e W2 ⟨rfl, hb2⟩
    have p2 : DescB W2 w.heap.size (.string ⟨#[]⟩) (.slice none 0 0) := p1.out.of_block (hb2.block _ p1.out.lt)
    have o2 : Hid (Below w.heap.size w W2) := o1.out.trans (hb2.mono o1.out.size)
    have p2' : Hid (DescB W2 w.heap.size (.string ⟨#[]⟩) (.slice none 0 0)) := p2
    obtain ⟨⟨r0, f0⟩, ⟨r1, f1⟩⟩ := p2.cells
    clear hPl1 hb2 p2
    go_wp2_with fail
    obtain ⟨Wf, hWf, k1, k2, k3⟩ := duo p2'.out (.string ⟨#[]⟩) (.slice none 0 0)
    rw [hWf]
    have hl := ld_desc Wf w.heap.size _ k1 rfl
    refine bodyPost_ret (results_cell_tmp2 rfl _ _ _ _ _ rfl hl) rfl ⟨Or.inr ⟨hok'.out, rfl⟩, k3 _ _ (Nat.le_refl _) o2.out⟩
  | true =>
    have hP1 := hP W1
    clear hPl hP
    go_wp2_with fail
    refine hP1.out.mono ?_
    rintro e W2 ⟨⟨v, rfl, hO⟩, hb2⟩
    obtain ⟨va, vc, rfl, hrow⟩ := ownS_trow hO
    have hrow2 : Hid (Row W2 va Z) := TRow.row hrow
    have p2 : Hid (DescB W2 w.heap.size (.string ⟨#[]⟩) (.slice none 0 0)) := p1.out.of_block (hb2.block _ p1.out.lt)
    have o2 : Hid (Below w.heap.size w W2) := o1.out.trans (hb2.mono o1.out.size)
    have n2 : Hid (w.heap.size + 1 ≤ W2.heap.size) := by have := n1.out; have := hb2.size; unfold Hid; omega
    obtain ⟨W3, hW3⟩ : ∃ W3, W2.alloc (.cells #[.string ⟨#[]⟩, .slice none 0 0] 30) = W3 := ⟨_, rfl⟩
    have hB3 : Below W2.heap.size W2 W3 := by rw [← hW3]; exact (Below.refl _ _).alloc (Nat.le_refl _) _
    have p3 : Hid (DescB W3 W2.heap.size (.string ⟨#[]⟩) (.slice none 0 0)) := by unfold Hid DescB; rw [← hW3]; exact heap_alloc_last W2 _
    have q3 : Hid (DescB W3 w.heap.size (.string ⟨#[]⟩) (.slice none 0 0)) := p2.out.of_block (hB3.block _ p2.out.lt)
    have o3 : Hid (Below w.heap.size w W3) := o2.out.trans (hB3.mono o2.out.size)
    have n3 : Hid (W3.heap.size = W2.heap.size + 1) := by unfold Hid; rw [← hW3, World.size_alloc]
    have hrow3 : Hid (Row W3 va Z) := hrow2.out.below hB3
    obtain ⟨b, off, hva, hc2⟩ := hrow2.out 0 hsz.out.2.2
    have hbl : Hid (b < W2.heap.size) := World.block_lt_of_cell? W2 _ hc2
    have hc : W3.cell? ⟨b, off, none⟩ = some (.string (S (Z[0]'hsz.out.2.2))) := (hB3.cell (show b < W2.heap.size from hbl.out) (p := ⟨b, off + 0, none⟩)).trans hc2
    subst hva
    obtain ⟨T, hT⟩ : ∃ T, canN (S (fold (S (Z[0]'hsz.out.2.2)).data.toList)) = T := ⟨_, rfl⟩
    have hCa := canonR_any (S (Z[0]'hsz.out.2.2)) W3 (by rw [S_sizeR]; have := hsz.out.2.1 _ (List.getElem_mem hsz.out.2.2); omega)
    rw [hT] at hCa
    have hTt : Hid (T = canN (typD f)) := by
      unfold Hid
      rw [← hT, S_l, ← headD_get, ← (hdp.out hok'.out).1, S_of]
    have z0 : (0 : Int) < (Z.length : Int) := by have := hsz.out.2.2; omega
    have z1 : Z.length ≤ 4194301 := hsz.out.1
    generalize S (Z[0]'hsz.out.2.2) = X0 at *
    clear hO hrow hP1 hb2 hT hB3 p2 o2 hrow2 p1 o1 hc2
    go_wp2_with fail
    refine hCa.mono ?_
    rintro e W4 ⟨rfl, hb4⟩
    have p4 : DescB W4 W2.heap.size (.string ⟨#[]⟩) (.slice none 0 0) := p3.out.of_block (hb4.block _ p3.out.lt)
    obtain ⟨⟨r0, f0⟩, ⟨r1, f1⟩⟩ := p4.cells
    obtain ⟨W5, hW5⟩ : ∃ W5, W4.setCell ⟨W2.heap.size, 0, none⟩ (.string T) = W5 := ⟨_, rfl⟩
    have p5 : Hid (DescB W5 W2.heap.size (.string T) (.slice none 0 0)) := by unfold Hid DescB; rw [← hW5]; exact Go.heap_setCell_same _ _ _ _ _ _ p4
    have q5 : Hid (DescB W5 w.heap.size (.string ⟨#[]⟩) (.slice none 0 0)) := by
      have h := q3.out.of_block (hb4.block _ q3.out.lt)
      refine h.of_block ?_
      rw [← hW5, Below.heap_setCell _ _ _ _ (by show w.heap.size ≠ W2.heap.size; have := n2.out; omega)]
    have o5 : Hid (Below w.heap.size w W5) := by
      unfold Hid
      rw [← hW5]
      exact Below.setCell (o3.out.trans (hb4.mono o3.out.size)) (by show w.heap.size ≤ W2.heap.size; have := n2.out; omega) _
    have hrow5 : Hid (Row W5 (some ⟨b, off, none⟩) Z) := by
      refine Row.of_blocks (hrow3.out.below hb4) (fun b' off' e => ?_)
      injection e with e
      injection e with e _
      subst e
      rw [← hW5, Below.heap_setCell _ _ _ _ ?_]
      show b ≠ W2.heap.size
      have := hbl.out
      omega
    have n5 : Hid (W2.heap.size < W5.heap.size ∧ w.heap.size < W2.heap.size) := ⟨p5.out.lt, by have := n2.out; omega⟩
    clear hCa hb4 p4 p3 q3 o3 hrow3 hc hW3 n3
    go_wp2_with fail
    clear r0 f0 r1 f1 hW5
    go_loopw [8, 9] (fun ov iv wr => ∃ (k : Nat) (ms : List (List UInt8)), k + 1 ≤ Z.length ∧ iv = .int .i64 ((k : Int) + 1) ∧ (∃ oa ol oc, ov = .slice oa ol oc ∧ OwnS wr W5.heap.size (.slice oa ol oc) ms) ∧ Below W5.heap.size W5 wr ∧ Hid (ms = (Z.tail.take k).map fold)) (fun _ iv _ => Z.length + 1 - (intOf iv).toNat)
    case atStart => exact ⟨0, [], hsz.out.2.2, rfl, ⟨none, 0, 0, rfl, ownS_nil _ _⟩, Below.refl _ _, rfl⟩
    case round =>
      obtain ⟨k, ms, hk, rfl, ⟨oa, ol, oc, rfl, hown0⟩, hB0, hms⟩ := hrel
      have hown : Hid (OwnS wr W5.heap.size (.slice oa ol oc) ms) := hown0
      have hB : Hid (Below W5.heap.size W5 wr) := hB0
      have hszw : W5.heap.size ≤ wr.heap.size := hB0.size
      have hml : Hid (ms.length ≤ k) := by unfold Hid; rw [hms.out, List.length_map, List.length_take]; omega
      clear hown0 hB0
      by_cases hlt : k + 1 < Z.length
      · obtain ⟨b', off', hva, hc⟩ := (hrow5.out.below hB.out) (k + 1) hlt
        injection hva with hva
        injection hva with e1 e2
        subst e1 e2
        have htl : k < Z.tail.length := by rw [List.length_tail]; omega
        obtain ⟨M, hM⟩ : ∃ M, fold Z[k + 1] = M := ⟨_, rfl⟩
        have hF := rFold_any (S Z[k + 1]) wr (by rw [S_sizeR]; have := hsz.out.2.1 _ (List.getElem_mem hlt); omega)
        rw [S_l, hM] at hF
        have hnx : Hid (ms ++ [M] = (Z.tail.take (k + 1)).map fold) := by
          unfold Hid
          rw [List.take_succ_eq_append_getElem htl, List.map_append, hms.out, List.getElem_tail, ← hM]
          rfl
        generalize S Z[k + 1] = X at *
        have hl3 : Hid (ms.length ≤ 4194304) := by have := hml.out; unfold Hid; omega
        have k0 : (0 : Int) ≤ (k : Int) + 1 := by omega
        have k1 : (k : Int) + 1 < (Z.length : Int) := by omega
        have hlt' : Hid (k + 1 < Z.length) := hlt
        clear hM htl
        go_wp2_with fail
        refine hF.mono ?_
        rintro e w1 ⟨rfl, hb1⟩
        have hown1 : Hid (OwnS w1 W5.heap.size (.slice oa ol oc) ms) := ownS_of hown.out (fun g hg => hb1.block g (ownS_lt hown.out hg).2)
        have hB1 : Hid (Below W5.heap.size W5 w1) := hB.out.trans (hb1.mono hszw)
        have hsz1 : W5.heap.size ≤ w1.heap.size := Nat.le_trans hszw hb1.size
        clear hF hb1
        go_wp2_with (at_builtin; refine push_text _ rfl _ _ rfl W5.heap.size _ ms M _ rfl rfl ?_ ?_ ?_ hl3.out ?_; (exact World.ownsRow.alloc hown1.out _); (exact heap_alloc_new _ _); (simp; omega); intro g6 cap6 w6 hown6 hgr6 hlie6 hb6)
        refine ⟨⟨k + 1, ms ++ [M], hlt'.out, by simp, ⟨_, _, _, rfl, hown6⟩, (hB1.out.alloc hsz1 _).trans hb6, hnx⟩, ?_⟩
        have := hlt'.out
        simp [intOf]
        omega
      · have hke : k + 1 = Z.length := by omega
        have hms' : Hid (ms = (desc f).1) := by
          unfold Hid
          rw [hms.out, (hdp.out hok'.out).2, List.take_of_length_le (by rw [List.length_tail]; omega)]
        have k1 : ¬ (k : Int) + 1 < (Z.length : Int) := by omega
        obtain ⟨va, vc, he, hrow⟩ := ownS_trow hown.out
        injection he with he1 he2 he3
        subst he1 he2 he3
        have hSo := sorted_any ms.length ms oa oc wr (Nat.le_refl _) (TRow.row hrow) (ownS_len hown.out) (by have := hml.out; omega)
        have hloc : Hid (∀ b off, oa = some ⟨b, off, none⟩ → W5.heap.size ≤ b) := by
          intro b off q
          rcases ownS_form hown.out with ⟨q1, _⟩ | ⟨g, cap, q1⟩
          · injection q1 with q1
            rw [q1] at q
            cases q
          · injection q1 with q2 _ _
            have h3 := (ownS_lt hown.out (g := g) (by rw [q2]; rfl)).1
            rw [q2] at q
            injection q with q
            injection q with q _
            omega
        have hmc : Hid (ms.length ≤ 4194304) := by have := hml.out; unfold Hid; omega
        clear hrow hms hke
        go_wp2_with fail
        refine hSo.mono ?_
        rintro e W6 ⟨⟨ra, r, rc, rfl, hrr, hup, hmem, hrl, hrc, hrloc⟩, hb6⟩
        have hrl' : Hid (∀ b off, ra = some ⟨b, off, none⟩ → W5.heap.size ≤ b) := by
          rcases hrloc with q | q
          · rw [q]; exact hloc.out
          · intro b off e
            have := q b off e
            omega
        have hb56 : Below W5.heap.size W5 W6 := hB.out.trans (hb6.mono hszw)
        have p6 : DescB W6 W2.heap.size (.string T) (.slice none 0 0) := p5.out.of_block (hb56.block _ p5.out.lt)
        have q6 : DescB W6 w.heap.size (.string ⟨#[]⟩) (.slice none 0 0) := q5.out.of_block (hb56.block _ q5.out.lt)
        obtain ⟨W7, hW7⟩ : ∃ W7, W6.setCell ⟨W2.heap.size, 1, none⟩ (.slice ra r.length rc) = W7 := ⟨_, rfl⟩
        have p7 : DescB W7 W2.heap.size (.string T) (.slice ra r.length rc) := by unfold DescB; rw [← hW7]; exact Go.heap_setCell_same _ _ _ _ _ _ p6
        have q7 : Hid (DescB W7 w.heap.size (.string ⟨#[]⟩) (.slice none 0 0)) := by
          refine q6.of_block ?_
          rw [← hW7, Below.heap_setCell _ _ _ _ (by show w.heap.size ≠ W2.heap.size; have := n5.out; omega)]
        have o7 : Hid (Below w.heap.size w W7) := by
          unfold Hid
          rw [← hW7]
          exact Below.setCell (o5.out.trans (hb56.mono o5.out.size)) (by show w.heap.size ≤ W2.heap.size; have := n5.out; omega) _
        have hrow7 : Hid (Row W7 ra r) := by
          refine Row.of_blocks hrr (fun b' off' e => ?_)
          have := hrl'.out b' off' e
          rw [← hW7, Below.heap_setCell _ _ _ _ (by show b' ≠ W2.heap.size; have := n5.out; omega)]
        have hup' : Hid (Up r ∧ (∀ z, z ∈ r ↔ z ∈ (desc f).1) ∧ r.length ≤ 4194304) := ⟨hup, by rw [← hms'.out]; exact hmem, by have := hmc.out; omega⟩
        obtain ⟨⟨r0, f0⟩, ⟨r1, f1⟩⟩ := p6.cells
        obtain ⟨⟨t0, y0⟩, ⟨t1, y1⟩⟩ := p7.cells
        obtain ⟨⟨u0, x0⟩, ⟨u1, x1⟩⟩ := q7.out.cells
        clear hSo hrr hup hmem hrl hrc hrloc hb6 hb56 p6 q6 p7 hB hown p5 q5 o5 hrow5
        go_wp2_with fail
        obtain ⟨Wf, hWf, g1, g2, g3⟩ := duo q7.out (.string T) (.slice ra r.length rc)
        rw [hWf]
        have hl := ld_desc Wf w.heap.size _ g1 rfl
        refine bodyPost_ret (results_cell_tmp2 rfl _ _ _ _ _ rfl hl) rfl ⟨Or.inl ⟨hok'.out, ra, r, rc, by rw [← hTt.out]; rfl, ?_, hup'.out⟩, g3 _ _ (Nat.le_refl _) o7.out⟩
        refine Row.of_blocks hrow7.out (fun b' off' e => g2 b' ?_)
        have := hrl'.out b' off' e
        have := n5.out
        omega
end Go.Proofs.YtnboimoncpphlabDoor
