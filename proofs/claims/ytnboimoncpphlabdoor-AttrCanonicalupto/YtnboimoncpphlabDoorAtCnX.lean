import Derived.Test.YtnboimoncpphlabDoorAtCnW
import Derived.BigQuiet
namespace Go.Proofs.YtnboimoncpphlabDoor
open Go.RowKit
open TextMath (fold lo)
set_option linter.unusedVariables false

theorem less_lt : ∀ x y : List UInt8, x < y → Op.bytesLess x y = true
  | _, [], h => by simp at h
  | [], _ :: _, _ => rfl
  | a :: x, b :: y, h => by
    rw [List.cons_lt_cons_iff] at h
    unfold Op.bytesLess
    rcases h with h | ⟨h1, h2⟩
    · simp [h]
    · simp [h1, less_lt x y h2]
set_option maxRecDepth 100000 in
set_option maxHeartbeats 4000000 in
theorem attrCanonical_walk (s : ByteArray) (w : World) (hs : s.size ≤ 1048576) (hS : SupTab w) (hY : SynTab w) :
    Calls Tryd.prog 4 #[.string s] w fun e w' => e = .returned (.bool true) ∧ Below w.heap.size w w' := by
  obtain ⟨f, hf⟩ : ∃ f, S (fold s.data.toList) = f := ⟨_, rfl⟩
  have hff : Hid (fold f.data.toList = f.data.toList) := by unfold Hid; rw [← hf, S_l]; exact TextMath.fold_fold _
  have hfs : f.size = s.size := by rw [← hf, fold_size]
  have hz : Hid (f.size ≤ 1048576) := by unfold Hid; omega
  have hPar : ∀ W, Hid (Calls Tryd.prog 12 #[.string s] W fun e w' => ParseIs w' W.heap.size f e ∧ Below W.heap.size W w') := fun W => parse_any s f hf W (by omega)
  have hCan : ∀ W, Hid (Calls Tryd.prog 10 #[.string s] W fun e w' => CnlIs f e ∧ Below W.heap.size W w') := fun W => canonicalT_any s f hf W (by omega)
  have hT : Hid (SupTab w ∧ SynTab w) := ⟨hS, hY⟩
  have hfs' : Hid (f.size = s.size) := hfs
  have hCov : ∀ (d e fd fe : ByteArray) (r : Bool) (W : World), d.size ≤ 4194304 → e.size ≤ 4194304 → S (fold d.data.toList) = fd → S (fold e.data.toList) = fe → covB fd fe = r → Below w.heap.size w W → Hid (Calls Tryd.prog 9 #[.string d, .string e] W fun q w' => q = .returned (.bool r) ∧ Below W.heap.size W w') := fun d e fd fe r W hd he h1 h2 hr hb => by
    have h := covers_any d e fd fe h1 h2 W hd he (hT.out.1.below hb)
    rw [hr] at h
    exact h
  have hSyn : ∀ (d fd : ByteArray) (r : Int) (W : World), d.size ≤ 4194304 → S (fold d.data.toList) = fd → synD fd = r → Below w.heap.size w W → Hid (Calls Tryd.prog 16 #[.string d] W fun q w' => q = .returned (.int .i64 r) ∧ Below W.heap.size W w') := fun d fd r W hd h1 hr hb => by
    have h := syntaxD_any d fd h1 W hd (hT.out.2.below hb)
    rw [hr] at h
    exact h
  have hf' : Hid (S (fold s.data.toList) = f) := hf
  have hs' : Hid (s.size ≤ 1048576) := hs
  clear hs hS hY hf hfs
  go_enter Tryd.func4, Tryd.ntmps4
  go_wp2_with fail
  refine (cnl_cx w).mono ?_
  rintro e W1 ⟨rfl, hb1⟩
  have o1 : Hid (Below w.heap.size w W1) := hb1
  clear hb1
  go_wp2_with fail
  refine (cnl_on W1).mono ?_
  rintro e W2 ⟨rfl, hb2⟩
  have o2 : Hid (Below w.heap.size w W2) := o1.out.trans (hb2.mono o1.out.size)
  clear hb2 o1
  go_wp2_with fail
  refine (numO_any 0 W2).mono ?_
  rintro e W2' ⟨rfl, hW2⟩
  subst hW2
  go_wp2_with fail
  refine (numO_any 0 W2').mono ?_
  rintro e W2 ⟨rfl, hW2⟩
  subst hW2
  have hP := hPar W2
  clear hPar
  go_wp2_with fail
  refine hP.out.mono ?_
  rintro e W3 ⟨hI, hb3⟩
  have o3 : Hid (Below w.heap.size w W3) := o2.out.trans (hb3.mono o2.out.size)
  clear hb3 o2 hP
  rcases hI with ⟨ok, v, L, rfl, hO, hn, hm⟩ | ⟨ok, rfl⟩
  · obtain ⟨va, vc, rfl, hrow⟩ := ownS_trow hO
    have hpl : ((desc f).2.1 : Int) = (s.size : Int) := by rw [(desc_inv f ok).2.2.1, hfs'.out]
    rw [hpl]
    obtain ⟨W4, hW4⟩ : ∃ W4, W3.alloc (.cells #[.string (canN (typD f)), .slice va (srt L).length vc] 30) = W4 := ⟨_, rfl⟩
    have hB4 : Below W3.heap.size W3 W4 := by rw [← hW4]; exact (Below.refl _ _).alloc (Nat.le_refl _) _
    have h4 : W4.heap[W3.heap.size]? = some (.cells #[.string (canN (typD f)), .slice va (srt L).length vc] 30 (0, 0)) := by rw [← hW4]; exact heap_alloc_last W3 _
    have hrow4 : Hid (TRow W4 va (srt L)) := hrow.below hB4
    have o4 : Hid (Below w.heap.size w W4) := o3.out.trans (hB4.mono o3.out.size)
    have hh4 : Hid (W4.heap[W3.heap.size]? = some (.cells #[.string (canN (typD f)), .slice va (srt L).length vc] 30 (0, 0))) := h4
    have hLn : Hid (L.Nodup ∧ ∀ z, z ∈ L ↔ z ∈ (desc f).1) := ⟨hn, hm⟩
    have ok' : Hid ((desc f).2.2 = true) := ok
    have hC := hCan W4
    have hpl' : Hid (((desc f).2.1 : Int) = (s.size : Int)) := hpl
    clear hrow hB4 h4 hO hn hm ok o3 hCan hpl
    go_wp2_with fail
    refine hC.out.mono ?_
    rintro e W5 ⟨hI, hb5⟩
    obtain ⟨x, hx, rfl⟩ : ∃ x, CanIs f x ∧ e = .returned (.tuple #[.string (S x), .int .i64 0, .int .i64 (s.size : Int)]) := by
      rcases hI with ⟨_, x, hx, rfl⟩ | ⟨h1, _⟩
      · exact ⟨x, hx, by rw [hpl'.out]⟩
      · rw [ok'.out] at h1; cases h1
    have o5 : Hid (Below w.heap.size w W5) := o4.out.trans (hb5.mono o4.out.size)
    have b5 : Hid (Below W4.heap.size W4 W5) := hb5
    have hx' : Hid (CanIs f x) := hx
    clear hI hb5 hC hx o4 hW4 hpl'
    go_wp2_with fail
    refine (numO_any 0 W5).mono ?_
    rintro e W5' ⟨rfl, hW5⟩
    subst hW5
    go_wp2_with fail
    refine (numO_any 0 W5').mono ?_
    rintro e W5 ⟨rfl, hW5⟩
    subst hW5
    go_wp2_with fail
    refine (numO_any 0 W5).mono ?_
    rintro e W5' ⟨rfl, hW5⟩
    subst hW5
    have hC := cnl_back f x ok'.out hff.out hx'.out hz.out W5'
    go_wp2_with fail
    refine hC.mono ?_
    rintro e W6 ⟨rfl, hb6⟩
    have o6 : Hid (Below w.heap.size w W6) := o5.out.trans (hb6.mono o5.out.size)
    have b6 : Hid (Below W4.heap.size W4 W6) := b5.out.trans (hb6.mono b5.out.size)
    have hP := par_back f x ok'.out hff.out hx'.out hz.out L hLn.out.1 hLn.out.2 W6
    clear hb6 hC o5 b5
    go_wp2_with fail
    refine hP.mono ?_
    rintro e W7 ⟨⟨ka, kc, rfl, hk⟩, hb7⟩
    have o7 : Hid (Below w.heap.size w W7) := o6.out.trans (hb7.mono o6.out.size)
    have b7 : Hid (Below W4.heap.size W4 W7) := b6.out.trans (hb7.mono b6.out.size)
    clear hb7 hP o6 b6
    obtain ⟨W8, hW8⟩ : ∃ W8, W7.alloc (.cells #[.string (canN (typD f)), .slice ka (srt L).length kc] 30) = W8 := ⟨_, rfl⟩
    have hB8 : Below W7.heap.size W7 W8 := by rw [← hW8]; exact (Below.refl _ _).alloc (Nat.le_refl _) _
    have h8 : W8.heap[W7.heap.size]? = some (.cells #[.string (canN (typD f)), .slice ka (srt L).length kc] 30 (0, 0)) := by rw [← hW8]; exact heap_alloc_last W7 _
    have o8 : Hid (Below w.heap.size w W8) := o7.out.trans (hB8.mono o7.out.size)
    have b8 : Hid (Below W4.heap.size W4 W8) := b7.out.trans (hB8.mono b7.out.size)
    have hh8 : Hid (W8.heap[W7.heap.size]? = some (.cells #[.string (canN (typD f)), .slice ka (srt L).length kc] 30 (0, 0))) := h8
    have hk8 : Hid (TRow W8 ka (srt L)) := hk.below hB8
    have hFo : Hid (∀ W, Calls Tryd.prog 13 #[.string (S x)] W fun e w' => e = .returned (.string (S x)) ∧ Below W.heap.size W w') := fun W => by
      have a := can_all f x ok'.out hff.out hx'.out
      have h := fold_any (S x) W (by unfold maxLen; have := a.2.2.2.2.2.2.2.2.2.1; have := hz.out; have h2 : (S x).size = x.length := by rw [← size_l, S_l]
                                     omega)
      rw [S_l, a.1] at h
      exact h
    clear hB8 h8 o7 b7 hk
    go_wp2_with fail
    refine (numO_any 0 W8).mono ?_
    rintro e W8' ⟨rfl, hW8⟩
    subst hW8
    go_wp2_with fail
    refine (numO_any 0 W8').mono ?_
    rintro e W8 ⟨rfl, hW8⟩
    subst hW8
    go_wp2_with fail
    refine (hFo.out W8).mono ?_
    rintro e W9 ⟨rfl, hb9⟩
    have o9 : Hid (Below w.heap.size w W9) := o8.out.trans (hb9.mono o8.out.size)
    have b9 : Below W4.heap.size W4 W9 := b8.out.trans (hb9.mono b8.out.size)
    have hd9 : Hid (W9.heap[W3.heap.size]? = some (.cells #[.string (canN (typD f)), .slice va (srt L).length vc] 30 (0, 0))) := (b9.block _ (Array.getElem?_eq_some_iff.1 hh4.out).1).trans hh4.out
    have he9 : W9.heap[W7.heap.size]? = some (.cells #[.string (canN (typD f)), .slice ka (srt L).length kc] 30 (0, 0)) := (hb9.block _ (Array.getElem?_eq_some_iff.1 hh8.out).1).trans hh8.out
    have hr9 : Hid (TRow W9 va (srt L)) := hrow4.out.below b9
    have hln : Hid ((srt L).length ≤ 4194304) := by have := srt_small f L hLn.out.1 hLn.out.2; have := hz.out; unfold Hid; omega
    have hSa := same04_loop (srt L) (srt L) ka va kc vc W9 rfl hln.out (hk8.out.below hb9).row hr9.out.row
    rw [decide_eq_true rfl] at hSa
    obtain ⟨r0, f0⟩ := row_cell hd9.out (j := 0) (by simp)
    obtain ⟨r1, f1⟩ := row_cell hd9.out (j := 1) (by simp)
    obtain ⟨r2, f2⟩ := row_cell he9 (j := 0) (by simp)
    obtain ⟨r3, f3⟩ := row_cell he9 (j := 1) (by simp)
    simp only [List.getElem_toArray, List.getElem_cons_zero, List.getElem_cons_succ] at r0 r1 r2 r3
    clear hb9 b9 he9 o8 b8 hh4 hh8 hk8 hrow4
    go_wp2_with fail
    refine hSa.mono ?_
    rintro e W10 ⟨rfl, q, hW10⟩
    have hb10 : Below W9.heap.size W9 W10 := by rw [hW10]; exact drewN_below _ _ _
    have o10 : Hid (Below w.heap.size w W10) := o9.out.trans (hb10.mono o9.out.size)
    have hd10 : Hid (W10.heap[W3.heap.size]? = some (.cells #[.string (canN (typD f)), .slice va (srt L).length vc] 30 (0, 0))) := (hb10.block _ (Array.getElem?_eq_some_iff.1 hd9.out).1).trans hd9.out
    have hr10 : Hid (TRow W10 va (srt L)) := hr9.out.below hb10
    have hPr := prt_can f x ok'.out hff.out hx'.out hz.out L hLn.out.1 hLn.out.2 va vc W10 hr10.out
    clear r0 f0 r1 f1 r2 f2 r3 f3 hSa hb10 hW10 hd9 hr9 o9
    obtain ⟨r0, f0⟩ := row_cell hd10.out (j := 0) (by simp)
    obtain ⟨r1, f1⟩ := row_cell hd10.out (j := 1) (by simp)
    simp only [List.getElem_toArray, List.getElem_cons_zero, List.getElem_cons_succ] at r0 r1
    go_wp2_with fail
    refine hPr.mono ?_
    rintro e W11 ⟨rfl, hb11⟩
    have o11 : Hid (Below w.heap.size w W11) := o10.out.trans (hb11.mono o10.out.size)
    have hd11 : Hid (W11.heap[W3.heap.size]? = some (.cells #[.string (canN (typD f)), .slice va (srt L).length vc] 30 (0, 0))) := (hb11.block _ (Array.getElem?_eq_some_iff.1 hd10.out).1).trans hd10.out
    have hr11 : Hid (TRow W11 va (srt L)) := hr10.out.below hb11
    clear r0 f0 r1 f1 hPr hb11 hd10 hr10 o10
    go_wp2_with fail
    go_loopw [21] (fun iv wr => ∃ i q : Nat, i ≤ (srt L).length ∧ iv = .int .i64 ((i : Int) + 1) ∧ Hid (wr = W11.drewN q)) (fun iv _ => (srt L).length + 1 - (intOf iv).toNat)
    case atStart => exact ⟨0, 0, Nat.zero_le _, rfl, rfl⟩
    case round =>
      obtain ⟨i, q, hi, rfl, hw⟩ := hrel
      have hbr : Below W11.heap.size W11 wr := by rw [hw.out]; exact drewN_below _ _ _
      have hdr : wr.heap[W3.heap.size]? = some (.cells #[.string (canN (typD f)), .slice va (srt L).length vc] 30 (0, 0)) := (hbr.block _ (Array.getElem?_eq_some_iff.1 hd11.out).1).trans hd11.out
      have hrr : TRow wr va (srt L) := hr11.out.below hbr
      have our : Hid (Below w.heap.size w wr) := o11.out.trans (hbr.mono o11.out.size)
      obtain ⟨r0, f0⟩ := row_cell hdr (j := 0) (by simp)
      obtain ⟨r1, f1⟩ := row_cell hdr (j := 1) (by simp)
      simp only [List.getElem_toArray, List.getElem_cons_zero, List.getElem_cons_succ] at r0 r1
      clear hbr hdr
      by_cases hlt : i + 1 < (srt L).length
      · obtain ⟨g, rfl, c1⟩ := hrr i (by omega)
        obtain ⟨g', e2, c2⟩ := hrr (i + 1) hlt
        injection e2 with e2
        injection e2 with e2
        subst e2
        have hup := srt_next L hLn.out.1 i hlt
        have i0 : (0 : Int) ≤ (i : Int) := Int.natCast_nonneg _
        have i1 : (i : Int) + 1 < ((srt L).length : Int) := by omega
        have i2 : (i : Int) < ((srt L).length : Int) := by omega
        have i3 : (0 : Int) ≤ (i : Int) + 1 := by omega
        have i4 : (srt L).length ≤ 4194304 := hln.out
        have hgeq : Op.bytesLess (S (srt L)[i]).toList (S (srt L)[i + 1]).toList = true := by rw [toListS, toListS]; exact less_lt _ _ hup
        generalize S (srt L)[i] = X at *
        generalize S (srt L)[i + 1] = Y at *
        clear hrr hup
        go_wp2_with fail
        go_quiet (fail)
        go_wp2_with fail
        go_roundw
        case rel => exact ⟨i + 1, _, by omega, by simp, by unfold Hid; rw [hw.out, World.drewN_drewN]⟩
        case measure => simp [intOf]; omega
      · have i1 : ¬ (i : Int) + 1 < ((srt L).length : Int) := by omega
        clear hrr r0 f0 hd11 hr11 o11 hi
        obtain ⟨c1, c2, c3, c4, c5, c6, c7, c8, c9, c10, c11⟩ := can_all f x ok'.out hff.out hx'.out
        have hzx : (S x).size ≤ 4194304 := by
          have h2 : (S x).size = x.length := by rw [← size_l, S_l]
          have := hz.out
          omega
        have hfx : S (fold (S x).data.toList) = S x := by rw [S_l, c1]
        have hzs : s.size ≤ 4194304 := by have := hs'.out; omega
        have hV1 := hCov s (S x) f (S x) true wr hzs hzx hf'.out hfx c7 our.out
        have hV2 : ∀ W, Below w.heap.size w W → Hid (Calls Tryd.prog 9 #[.string (S x), .string s] W fun q w' => q = .returned (.bool true) ∧ Below W.heap.size W w') := fun W hb => hCov (S x) s (S x) f true W hzx hzs hfx hf'.out c8 hb
        have hY1 : ∀ W, Below w.heap.size w W → Hid (Calls Tryd.prog 16 #[.string s] W fun q w' => q = .returned (.int .i64 (synD f)) ∧ Below W.heap.size W w') := fun W hb => hSyn s f _ W hzs hf'.out rfl hb
        have hY2 : ∀ W, Below w.heap.size w W → Hid (Calls Tryd.prog 16 #[.string (S x)] W fun q w' => q = .returned (.int .i64 (synD f)) ∧ Below W.heap.size W w') := fun W hb => hSyn (S x) (S x) _ W hzx hfx c9 hb
        clear hCov hSyn c1 c2 c3 c4 c5 c6 c7 c8 c9 c10 c11 hzx hfx hzs
        go_wp2_with fail
        refine hV1.out.mono ?_
        rintro e V1 ⟨rfl, hv1⟩
        have p1 : Hid (Below w.heap.size w V1) := our.out.trans (hv1.mono our.out.size)
        have hV3 := hV2 V1 p1.out
        clear hv1 hV1 hV2 our
        go_wp2_with fail
        refine hV3.out.mono ?_
        rintro e V2 ⟨rfl, hv2⟩
        have p2 : Hid (Below w.heap.size w V2) := p1.out.trans (hv2.mono p1.out.size)
        have hY3 := hY1 V2 p2.out
        clear hv2 hV3 hY1 p1
        go_wp2_with fail
        refine hY3.out.mono ?_
        rintro e V3 ⟨rfl, hv3⟩
        have p3 : Hid (Below w.heap.size w V3) := p2.out.trans (hv3.mono p2.out.size)
        have hY4 := hY2 V3 p3.out
        clear hv3 hY3 hY2 p2
        go_wp2_with fail
        refine hY4.out.mono ?_
        rintro e V4 ⟨rfl, hv4⟩
        have p4 : Hid (Below w.heap.size w V4) := p3.out.trans (hv4.mono p3.out.size)
        clear hv4 hY4 p3
        go_wp2_with fail
        go_ret
        exact ⟨rfl, p4.out⟩
  · have hCy : covB f f = false := by rw [cov_refl]; exact ok
    have hzs : s.size ≤ 4194304 := by have := hs'.out; omega
    have hV : ∀ W, Below w.heap.size w W → Hid (Calls Tryd.prog 9 #[.string s, .string s] W fun q w' => q = .returned (.bool false) ∧ Below W.heap.size W w') := fun W hb => hCov s s f f false W hzs hzs hf'.out hf'.out hCy hb
    have ok' : Hid ((desc f).2.2 = false) := ok
    have hB4 : Below W3.heap.size W3 (W3.alloc (.cells #[.string ⟨#[]⟩, .slice none 0 0] 30)) := (Below.refl _ _).alloc (Nat.le_refl _) _
    have hh4 : Hid ((W3.alloc (.cells #[.string ⟨#[]⟩, .slice none 0 0] 30)).heap[W3.heap.size]? = some (.cells #[.string ⟨#[]⟩, .slice none 0 0] 30 (0, 0))) := heap_alloc_last W3 _
    have o4 : Hid (Below w.heap.size w (W3.alloc (.cells #[.string ⟨#[]⟩, .slice none 0 0] 30))) := o3.out.trans (hB4.mono o3.out.size)
    have hC := hCan (W3.alloc (.cells #[.string ⟨#[]⟩, .slice none 0 0] 30))
    obtain ⟨r0, f0⟩ := row_cell hh4.out (j := 0) (by simp)
    obtain ⟨r1, f1⟩ := row_cell hh4.out (j := 1) (by simp)
    simp only [List.getElem_toArray, List.getElem_cons_zero, List.getElem_cons_succ] at r0 r1
    clear hCov hSyn ok hzs hB4 o3 hCan hCy
    go_wp2_with fail
    clear r0 r1 f0 f1
    refine hC.out.mono ?_
    rintro e W5 ⟨hI, hb5⟩
    obtain rfl : e = .returned (.tuple #[.string (S []), .int .i64 40, .int .i64 ((desc f).2.1 : Int)]) := by
      rcases hI with ⟨h1, _⟩ | ⟨_, h2⟩
      · rw [ok'.out] at h1; cases h1
      · exact h2
    have o5 : Hid (Below w.heap.size w W5) := o4.out.trans (hb5.mono o4.out.size)
    have hd5 : W5.heap[W3.heap.size]? = some (.cells #[.string ⟨#[]⟩, .slice none 0 0] 30 (0, 0)) := (hb5.block _ (Array.getElem?_eq_some_iff.1 hh4.out).1).trans hh4.out
    obtain ⟨r0, f0⟩ := row_cell hd5 (j := 0) (by simp)
    obtain ⟨r1, f1⟩ := row_cell hd5 (j := 1) (by simp)
    simp only [List.getElem_toArray, List.getElem_cons_zero, List.getElem_cons_succ] at r0 r1
    have hse : (S []) = ⟨#[]⟩ := rfl
    rw [hse]
    have hV5 := hV W5 o5.out
    clear hI hb5 hC hd5 o4 hse hV
    go_wp2_with fail
    refine (numO_any 40 W5).mono ?_
    rintro e W5' ⟨rfl, hW5⟩
    subst hW5
    go_wp2_with fail
    refine (numO_any 40 W5').mono ?_
    rintro e W5 ⟨rfl, hW5⟩
    subst hW5
    go_wp2_with fail
    refine (numO_any 40 W5).mono ?_
    rintro e W5' ⟨rfl, hW5⟩
    subst hW5
    go_wp2_with fail
    refine (numO_any 40 W5').mono ?_
    rintro e W5 ⟨rfl, hW5⟩
    subst hW5
    go_wp2_with fail
    refine hV5.out.mono ?_
    rintro e W6 ⟨rfl, hb6⟩
    have o6 : Hid (Below w.heap.size w W6) := o5.out.trans (hb6.mono o5.out.size)
    clear hb6 hV5 o5 r0 r1 f0 f1
    go_wp2_with fail
    go_ret
    exact ⟨rfl, o6.out⟩
end Go.Proofs.YtnboimoncpphlabDoor
