import Derived.Test.YtfmcaccbphmlmaaEnCopy
namespace Go.Proofs.Ytfmcaccbphmlmaa
open Go.RowKit
set_option linter.unusedVariables false

/-- The pairs of attributes, in their order. -/
def prs (xs : List Atr) : List (List UInt8 × List UInt8) := xs.flatMap (fun x => x.l.map (fun v => (x.d, v)))
theorem prs_snoc (xs : List Atr) (x : Atr) : prs (xs ++ [x]) = prs xs ++ x.l.map (fun v => (x.d, v)) := by simp [prs]
theorem prs_take_le (xs : List Atr) (i : Nat) : (prs (xs.take i)).length ≤ (prs xs).length := by
  have h2 : prs xs = prs (xs.take i) ++ prs (xs.drop i) := by
    unfold prs
    rw [← List.flatMap_append, List.take_append_drop]
  rw [h2, List.length_append]
  omega
theorem prs_pl {xs ys : List Atr} (h : ys.map pl = xs.map pl) : prs ys = prs xs := by
  have e : ∀ zs : List Atr, prs zs = (zs.map pl).flatMap (fun t => t.2.2.map (fun v => (t.1, v))) := fun zs => by
    unfold prs
    rw [List.flatMap_map]
    rfl
  rw [e, e, h]
theorem ld_record {W : World} {g : Nat} {a b c : Value} (h : Box W g 29 #[a, b, c]) : (loadVar 29 ⟨g, 0, none⟩).run Try.prog W = .ok (.agg #[a, b, c]) W :=
  run_loadVar_row W g 29 29 _ (0, 0) _ h Try.underlying29 rfl (by kernel_rfl)
theorem set3_keep (W : World) (g : Nat) (a b c : Value) (k : Nat) (h : k ≠ g) : (((W.setCell ⟨g, 0, none⟩ a).setCell ⟨g, 1, none⟩ b).setCell ⟨g, 2, none⟩ c).heap[k]? = W.heap[k]? := by
  rw [Below.heap_setCell _ _ _ _ h, Below.heap_setCell _ _ _ _ h, Below.heap_setCell _ _ _ _ h]
theorem set3_below {w W : World} {B g : Nat} {a b c : Value} (h : Below B w W) (hg : B ≤ g) : Below B w (((W.setCell ⟨g, 0, none⟩ a).setCell ⟨g, 1, none⟩ b).setCell ⟨g, 2, none⟩ c) :=
  Below.setCell (Below.setCell (Below.setCell h hg _) hg _) hg _

/-- What stands while the pairs are gathered. -/
def BSt (w : World) (ln : Int) (nm : ByteArray) (kv av v : Value) (l : List (List UInt8 × List UInt8)) (W : World) : Prop :=
  Box W w.heap.size 25 #[.int .i64 ln, .string nm, kv, av] ∧ Box W (w.heap.size + 1) 29 #[.int .i64 0, .string ⟨#[]⟩, .slice none 0 0] ∧ Box W (w.heap.size + 2) 29 #[.int .i64 ln, .string nm, v] ∧ OwnP W (w.heap.size + 3) v l ∧ Below w.heap.size w W
theorem BSt.past {w W W' : World} {ln : Int} {nm : ByteArray} {kv av v : Value} {l : List (List UInt8 × List UInt8)} (h : BSt w ln nm kv av v l W) (hb : Below W.heap.size W W') : BSt w ln nm kv av v l W' :=
  ⟨h.1.below hb, h.2.1.below hb, h.2.2.1.below hb, owns_same (show World.ownsRow _ _ 39 2 _ _ _ from h.2.2.2.1) (fun k hk => hb.block k (World.ownsRow.lt (show World.ownsRow _ _ 39 2 _ _ _ from h.2.2.2.1) k hk).2), h.2.2.2.2.trans (hb.mono h.2.2.2.2.size)⟩
/-- One pair more. -/
theorem BSt.push {w W W' : World} {ln : Int} {nm : ByteArray} {kv av v v' : Value} {l l' : List (List UInt8 × List UInt8)} (h : BSt w ln nm kv av v l W) (ho : OwnP W' (w.heap.size + 3) v' l') (hk : ∀ b, b < W.heap.size → v.ownBlock ≠ some b → W'.heap[b]? = W.heap[b]?) (hb : Below (w.heap.size + 3) W W') :
    BSt w ln nm kv av v' l' (W'.setCell ⟨w.heap.size + 2, 2, none⟩ v') := by
  obtain ⟨h1, h2, h3, h4, h5⟩ := h
  have ho4 := (show World.ownsRow _ _ 39 2 _ _ _ from h4)
  refine ⟨?_, ?_, ?_, ?_, ?_⟩
  · exact (h1.of (hk _ h1.lt (box_apart h1 ho4 (by decide)))).of (Below.heap_setCell _ _ _ _ (by show w.heap.size ≠ w.heap.size + 2; omega))
  · exact (h2.of (hk _ h2.lt (box_apart h2 ho4 (by decide)))).of (Below.heap_setCell _ _ _ _ (by show w.heap.size + 1 ≠ w.heap.size + 2; omega))
  · exact (h3.of (hk _ h3.lt (box_apart h3 ho4 (by decide)))).set 2 v'
  · refine owns_same (show World.ownsRow _ _ 39 2 _ _ _ from ho) (fun k hk => Below.heap_setCell _ _ _ _ ?_)
    have := (World.ownsRow.lt (show World.ownsRow _ _ 39 2 _ _ _ from ho) k hk).1
    show k ≠ w.heap.size + 2
    omega
  · exact (h5.trans (hb.mono (by omega))).setCell (p := ⟨w.heap.size + 2, 2, none⟩) (by show w.heap.size ≤ w.heap.size + 2; omega) _

set_option maxRecDepth 100000 in
set_option maxHeartbeats 2000000 in
theorem back_any (ln : Int) (nm : ByteArray) (ka : Option Addr) (kn kc : Nat) (xs : List Atr) (a : Option Addr) (c : Nat) (w : World) (hn : xs.length ≤ 1048576) (hp : (prs xs).length ≤ 1048576) (h : ARow w a xs) :
    Calls Try.prog 5 #[.agg #[.int .i64 ln, .string nm, .slice ka kn kc, .slice a xs.length c]] w fun e w' => (∃ v, e = .returned (.agg #[.int .i64 ln, .string nm, v]) ∧ OwnP w' w.heap.size v (prs xs)) ∧ Below w.heap.size w w' := by
  obtain ⟨Wa, hWa⟩ : ∃ W, w.alloc (.cells #[.int .i64 ln, .string nm, .slice ka kn kc, .slice a xs.length c] 25) = W := ⟨_, rfl⟩
  obtain ⟨Wb, hWb⟩ : ∃ W, Wa.alloc (.cells #[.int .i64 0, .string ⟨#[]⟩, .slice none 0 0] 29) = W := ⟨_, rfl⟩
  have na : Wa.heap.size = w.heap.size + 1 := by rw [← hWa]; simp
  have nb : Wb.heap.size = w.heap.size + 2 := by rw [← hWb, World.size_alloc, na]
  have pa : Box Wa w.heap.size 25 #[.int .i64 ln, .string nm, .slice ka kn kc, .slice a xs.length c] := by rw [← hWa]; exact Box.new _ _ _
  have pb : Box Wb w.heap.size 25 #[.int .i64 ln, .string nm, .slice ka kn kc, .slice a xs.length c] := by rw [← hWb]; exact pa.past _
  have qb : Box Wb (w.heap.size + 1) 29 #[.int .i64 0, .string ⟨#[]⟩, .slice none 0 0] := by rw [← hWb, ← na]; exact Box.new _ _ _
  have hBb : Below w.heap.size w Wb := by
    rw [← hWb, ← hWa]
    exact ((Below.refl _ _).alloc (Nat.le_refl _) _).alloc (by simp) _
  have h' : Hid (ARow w a xs) := h
  have hp' : Hid ((prs xs).length ≤ 1048576) := hp
  obtain ⟨c0, _⟩ := pb.cell 0 (by simp)
  obtain ⟨c1, _⟩ := pb.cell 1 (by simp)
  simp only [List.getElem_toArray, List.getElem_cons_zero, List.getElem_cons_succ] at c0 c1
  have hW0 : Hid (Box Wb w.heap.size 25 #[.int .i64 ln, .string nm, .slice ka kn kc, .slice a xs.length c] ∧ Box Wb (w.heap.size + 1) 29 #[.int .i64 0, .string ⟨#[]⟩, .slice none 0 0] ∧ Below w.heap.size w Wb ∧ Wb.heap.size = w.heap.size + 2) := ⟨pb, qb, hBb, nb⟩
  clear h hp pa pb qb hBb
  go_enter Try.func5, Try.ntmps5
  go_upto_region 2 with fail
  clear c0 c1 hWa hWb na nb
  obtain ⟨Wc, hWc⟩ : ∃ W, Wb.alloc (.cells #[.int .i64 ln, .string nm, .slice none 0 0] 29) = W := ⟨_, rfl⟩
  rw [hWc]
  have hI0 : Hid (BSt w ln nm (.slice ka kn kc) (.slice a xs.length c) (.slice none 0 0) (prs (xs.take 0)) Wc) := by
    obtain ⟨pb, qb, hBb, nb⟩ := hW0.out
    rw [← hWc]
    refine ⟨pb.past _, qb.past _, ?_, ownP_nil _ _, hBb.trans ((Below.refl _ _).alloc (by omega) _)⟩
    rw [← nb]
    exact Box.new _ _ _
  have c3 : Wc.cell? ⟨w.heap.size, 3, none⟩ = some (.slice a xs.length c) := (hI0.out.1.cell 3 (by simp)).1
  clear hWc hW0
  go_wp2_with fail
  clear c3
  go_loopw [16] (fun iv wr => ∃ (i : Nat) (v : Value), i ≤ xs.length ∧ iv = .int .i64 (i : Int) ∧ Hid (BSt w ln nm (.slice ka kn kc) (.slice a xs.length c) v (prs (xs.take i)) wr)) (fun iv _ => xs.length - (intOf iv).toNat)
  case atStart => exact ⟨0, .slice none 0 0, Nat.zero_le _, rfl, hI0⟩
  case round =>
    obtain ⟨i, v, hi, rfl, hI⟩ := hrel
    clear hI0
    by_cases hlt : i < xs.length
    · obtain ⟨⟨b, off, rfl, d0, d1, d2⟩, hrow⟩ := (h'.out.below hI.out.2.2.2.2) i hlt
      have i0 : (0 : Int) ≤ (i : Int) := Int.natCast_nonneg _
      have i1 : (i : Int) < (xs.length : Int) := Int.ofNat_lt.2 hlt
      have htk : Hid (prs (xs.take (i + 1)) = prs (xs.take i) ++ xs[i].l.map (fun v => (xs[i].d, v))) := by
        unfold Hid
        rw [List.take_succ_eq_append_getElem hlt, prs_snoc]
      have hpl : Hid ((prs (xs.take i)).length + xs[i].l.length ≤ 1048576) := by
        have h1 := prs_take_le xs (i + 1)
        rw [htk.out, List.length_append, List.length_map] at h1
        exact Nat.le_trans h1 hp'.out
      have hr0 : Hid (Row w xs[i].a xs[i].l) := (h'.out i hlt).2
      obtain ⟨⟨xd, xc, xa, xn, xl⟩, hx⟩ : ∃ x, xs[i] = x := ⟨_, rfl⟩
      rw [hx] at d0 d1 d2 htk hpl hr0
      dsimp only at d0 d1 d2 htk hpl hr0
      have hwr : Hid (w.heap.size + 3 ≤ wr.heap.size) := hI.out.2.2.1.lt
      have hlt' : Hid (i < xs.length) := hlt
      obtain ⟨wA, hwA⟩ : ∃ W, wr.alloc (.cells #[.string (S xd), .string (S xc), .slice xa xl.length xn] 37) = W := ⟨_, rfl⟩
      have bA : Box wA wr.heap.size 37 #[.string (S xd), .string (S xc), .slice xa xl.length xn] := by rw [← hwA]; exact Box.new _ _ _
      have hJ0 : Hid (Box wA wr.heap.size 37 #[.string (S xd), .string (S xc), .slice xa xl.length xn] ∧ BSt w ln nm (.slice ka kn kc) (.slice (some ⟨b, off, none⟩) xs.length c) v (prs (xs.take i) ++ (xl.take 0).map (fun v => (xd, v))) wA) := by
        refine ⟨bA, ?_⟩
        rw [List.take_zero, List.map_nil, List.append_nil, ← hwA]
        exact hI.out.past ((Below.refl _ _).alloc (Nat.le_refl _) _)
      have e2 : wA.cell? ⟨wr.heap.size, 2, none⟩ = some (.slice xa xl.length xn) := (bA.cell 2 (by simp)).1
      clear hrow hx hlt bA hI
      go_upto_region 5 with fail
      clear d0 d1 d2 hwA
      generalize wr.heap.size = q at *
      go_wp2_with fail
      clear e2
      go_loopw [23] (fun jv wr => ∃ (j : Nat) (v : Value), j ≤ xl.length ∧ jv = .int .i64 (j : Int) ∧ Hid (Box wr q 37 #[.string (S xd), .string (S xc), .slice xa xl.length xn] ∧ BSt w ln nm (.slice ka kn kc) (.slice (some ⟨b, off, none⟩) xs.length c) v (prs (xs.take i) ++ (xl.take j).map (fun v => (xd, v))) wr)) (fun jv _ => xl.length - (intOf jv).toNat)
      case atStart => exact ⟨0, v, Nat.zero_le _, rfl, hJ0⟩
      case round =>
        obtain ⟨j, v, hj, rfl, hJ⟩ := hrel
        clear hJ0
        by_cases hjt : j < xl.length
        · obtain ⟨b2, off2, rfl, cv⟩ := (hr0.out.below hJ.out.2.2.2.2.2) j hjt
          have j0 : (0 : Int) ≤ (j : Int) := Int.natCast_nonneg _
          have j1 : (j : Int) < (xl.length : Int) := Int.ofNat_lt.2 hjt
          have hxl : xl.length ≤ 1048576 := by have := hpl.out; omega
          have hjk : Hid (xl.take (j + 1) = xl.take j ++ [xl[j]]) := List.take_succ_eq_append_getElem hjt
          obtain ⟨m, hm⟩ : ∃ m, xl[j] = m := ⟨_, rfl⟩
          rw [hm] at cv hjk
          have hjt' : Hid (j < xl.length) := hjt
          obtain ⟨L, hL⟩ : ∃ L, prs (xs.take i) ++ (xl.take j).map (fun v => (xd, v)) = L := ⟨_, rfl⟩
          have hLk : Hid (prs (xs.take i) ++ (xl.take (j + 1)).map (fun v => (xd, v)) = L ++ [(xd, m)]) := by
            unfold Hid
            rw [hjk.out, List.map_append, ← List.append_assoc, hL]
            rfl
          have hLl : L.length ≤ 4194304 := by
            have := hpl.out
            rw [← hL, List.length_append, List.length_map, List.length_take]
            omega
          rw [hL] at hJ
          obtain ⟨va, vc, rfl, _⟩ := owns_slice (show World.ownsRow _ _ 39 2 _ _ _ from hJ.out.2.2.2.2.1)
          have f0 : wr.cell? ⟨q, 0, none⟩ = some (.string (S xd)) := (hJ.out.1.cell 0 (by simp)).1
          have f2 : wr.cell? ⟨w.heap.size + 2, 2, none⟩ = some (.slice va L.length vc) := (hJ.out.2.2.2.1.cell 2 (by simp)).1
          clear hjt hm hL hjk
          go_upto_region 8 with fail
          obtain ⟨w6, hw6⟩ : ∃ W, wr.alloc (.cells #[.string (S xd), .string (S m)] 39) = W := ⟨_, rfl⟩
          have hb6 : Below wr.heap.size wr w6 := by rw [← hw6]; exact (Below.refl _ _).alloc (Nat.le_refl _) _
          have b6 : Box w6 wr.heap.size 39 #[.string (S (xd, m).1), .string (S (xd, m).2)] := by rw [← hw6]; exact Box.new _ _ _
          have hJ6 : Hid (Box w6 q 37 #[.string (S xd), .string (S xc), .slice (some ⟨b2, off2, none⟩) xl.length xn] ∧ BSt w ln nm (.slice ka kn kc) (.slice (some ⟨b, off, none⟩) xs.length c) (.slice va L.length vc) L w6) := ⟨hJ.out.1.below hb6, hJ.out.2.past hb6⟩
          have hO6 := hJ6.out.2.2.2.2.1
          have hs6 : w.heap.size + 3 ≤ w6.heap.size := hJ6.out.2.2.2.1.lt
          have hcl : ∀ w7 : World, (∀ b, b < w6.heap.size → Value.ownBlock (.slice va L.length vc) ≠ some b → w7.heap[b]? = w6.heap[b]?) → w7.cell? ⟨w.heap.size + 2, 2, none⟩ = some (.slice va L.length vc) ∧ w7.frozen? ⟨w.heap.size + 2, 2, none⟩ = false := fun w7 hk => by
            have hb := hJ6.out.2.2.2.1
            exact (hb.of (hk _ hb.lt (box_apart hb (show World.ownsRow _ _ 39 2 _ _ _ from hO6) (by decide)))).cell 2 (by simp)
          clear hJ hb6 cv
          go_wp2_with (at_builtin; refine push_pair _ rfl _ _ rfl (w.heap.size + 3) _ L (xd, m) wr.heap.size rfl rfl hO6 b6 hs6 hLl ?_; intro g' cap' w7 hO7 hk7 hb7; obtain ⟨r2, y2⟩ := hcl w7 hk7; clear f0 f2 hw6 b6 hcl)
          have hfin : Hid (Box (w7.setCell ⟨w.heap.size + 2, 2, none⟩ (.slice (some ⟨g', 0, none⟩) (L.length + 1) cap')) q 37 #[.string (S xd), .string (S xc), .slice (some ⟨b2, off2, none⟩) xl.length xn] ∧ BSt w ln nm (.slice ka kn kc) (.slice (some ⟨b, off, none⟩) xs.length c) (.slice (some ⟨g', 0, none⟩) (L.length + 1) cap') (L ++ [(xd, m)]) (w7.setCell ⟨w.heap.size + 2, 2, none⟩ (.slice (some ⟨g', 0, none⟩) (L.length + 1) cap'))) := by
            refine ⟨?_, hJ6.out.2.push hO7 hk7 hb7⟩
            have hb := hJ6.out.1
            have := hwr.out
            exact (hb.of (hk7 _ hb.lt (box_apart hb (show World.ownsRow _ _ 39 2 _ _ _ from hO6) (by decide)))).of (Below.heap_setCell _ _ _ _ (by show q ≠ w.heap.size + 2; omega))
          clear hO7 hk7 hb7 r2 y2 hO6 hJ6
          go_roundw
          case rel => exact ⟨j + 1, .slice (some ⟨g', 0, none⟩) (L.length + 1) cap', hjt'.out, by simp, by rw [hLk.out]; exact hfin⟩
          case measure => have := hjt'.out; simp [intOf]; omega
        · have hje : j = xl.length := by omega
          subst hje
          have k1 : ¬ (xl.length : Int) < (xl.length : Int) := by omega
          rw [List.take_length, ← htk.out] at hJ
          go_wp2_with fail
          go_roundw
          case rel => exact ⟨i + 1, v, hlt'.out, by simp, hJ.out.2⟩
          case measure => have := hlt'.out; simp [intOf]; omega
    · have hie : i = xs.length := by omega
      subst hie
      rw [List.take_length] at hI
      have k1 : ¬ (xs.length : Int) < (xs.length : Int) := by omega
      obtain ⟨va, vc, rfl, _⟩ := owns_slice (show World.ownsRow _ _ 39 2 _ _ _ from hI.out.2.2.2.1)
      have q3 := hI.out.2.2.1
      have q2 := hI.out.2.1
      obtain ⟨e0, _⟩ := q3.cell 0 (by simp)
      obtain ⟨e1, _⟩ := q3.cell 1 (by simp)
      obtain ⟨e2, _⟩ := q3.cell 2 (by simp)
      obtain ⟨g0, z0⟩ := q2.cell 0 (by simp)
      obtain ⟨g1, z1⟩ := q2.cell 1 (by simp)
      obtain ⟨g2, z2⟩ := q2.cell 2 (by simp)
      simp only [List.getElem_toArray, List.getElem_cons_zero, List.getElem_cons_succ] at e0 e1 e2 g0 g1 g2
      obtain ⟨Wz, hWz⟩ : ∃ W, ((wr.setCell ⟨w.heap.size + 1, 0, none⟩ (.int .i64 ln)).setCell ⟨w.heap.size + 1, 1, none⟩ (.string nm)).setCell ⟨w.heap.size + 1, 2, none⟩ (.slice va (prs xs).length vc) = W := ⟨_, rfl⟩
      have hres : Box Wz (w.heap.size + 1) 29 #[.int .i64 ln, .string nm, .slice va (prs xs).length vc] := by rw [← hWz]; exact ((q2.set 0 _).set 1 _).set 2 _
      have hfin : OwnP Wz w.heap.size (.slice va (prs xs).length vc) (prs xs) ∧ Below w.heap.size w Wz := by
        rw [← hWz]
        refine ⟨owns_base (owns_same (show World.ownsRow _ _ 39 2 _ _ _ from hI.out.2.2.2.1) (fun k hk => set3_keep _ _ _ _ _ _ ?_)) (by omega), set3_below hI.out.2.2.2.2 (by omega)⟩
        have := (World.ownsRow.lt (show World.ownsRow _ _ 39 2 _ _ _ from hI.out.2.2.2.1) k hk).1
        omega
      have hfin' : Hid (OwnP Wz w.heap.size (.slice va (prs xs).length vc) (prs xs) ∧ Below w.heap.size w Wz) := hfin
      have hres' : Hid (Box Wz (w.heap.size + 1) 29 #[.int .i64 ln, .string nm, .slice va (prs xs).length vc]) := hres
      have hWz' : Hid (((wr.setCell ⟨w.heap.size + 1, 0, none⟩ (.int .i64 ln)).setCell ⟨w.heap.size + 1, 1, none⟩ (.string nm)).setCell ⟨w.heap.size + 1, 2, none⟩ (.slice va (prs xs).length vc) = Wz) := hWz
      clear hfin hres hI q2 q3 hWz
      go_wp2_with fail
      rw [hWz'.out]
      refine bodyPost_ret (results_cell _ _ _ rfl _ _ _ _ _ rfl (ld_record hres'.out)) rfl ⟨⟨_, rfl, hfin'.out.1⟩, hfin'.out.2⟩
end Go.Proofs.Ytfmcaccbphmlmaa
