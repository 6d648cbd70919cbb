import Derived.Test.YtfmcaccbphmlmaaEnBack
namespace Go.Proofs.Ytfmcaccbphmlmaa
open Go.RowKit
set_option linter.unusedVariables false

set_option maxRecDepth 100000 in
set_option maxHeartbeats 8000000 in
theorem rback_any (ln : Int) (nm : ByteArray) (ka : Option Addr) (kn kc : Nat) (xs : List Atr) (a : Option Addr) (c : Nat) (w : World) (hn : xs.length ≤ 1048576) (hp : (prs xs).length ≤ 1048576) (h : ARow w a xs) :
    Calls Try.prog 6 #[.agg #[.int .i64 ln, .string nm, .slice ka kn kc, .slice a xs.length c]] w fun e w' => (∃ v, e = .returned (.agg #[.int .i64 ln, .string nm, v]) ∧ OwnP w' w.heap.size v (prs xs)) ∧ Below w.heap.size w w' := by
  obtain ⟨Wa, hWa⟩ : ∃ W, w.alloc (.cells #[.int .i64 ln, .string nm, .slice ka kn kc, .slice a xs.length c] 25) = W := ⟨_, rfl⟩
  obtain ⟨Wb, hWb⟩ : ∃ W, Wa.alloc (.cells #[.int .i64 0, .string ⟨#[]⟩, .slice none 0 0] 29) = W := ⟨_, rfl⟩
  have na : Wa.heap.size = w.heap.size + 1 := by rw [← hWa]; simp
  have nb : Wb.heap.size = w.heap.size + 2 := by rw [← hWb, World.size_alloc, na]
  have pa : Box Wa w.heap.size 25 #[.int .i64 ln, .string nm, .slice ka kn kc, .slice a xs.length c] := by rw [← hWa]; exact Box.new _ _ _
  have pb : Box Wb w.heap.size 25 #[.int .i64 ln, .string nm, .slice ka kn kc, .slice a xs.length c] := by rw [← hWb]; exact pa.past _
  have qb : Box Wb (w.heap.size + 1) 29 #[.int .i64 0, .string ⟨#[]⟩, .slice none 0 0] := by rw [← hWb, ← na]; exact Box.new _ _ _
  have hBb : Below w.heap.size w Wb := by
    rw [← hWb, ← hWa]
    exact ((Below.refl _ _).alloc (Nat.le_refl _) _).alloc (by simp) _
  have h' : Hid (ARow w a xs) := h
  have hp' : Hid ((prs xs).length ≤ 1048576) := hp
  obtain ⟨c0, _⟩ := pb.cell 0 (by simp)
  obtain ⟨c1, _⟩ := pb.cell 1 (by simp)
  simp only [List.getElem_toArray, List.getElem_cons_zero, List.getElem_cons_succ] at c0 c1
  have hW0 : Hid (Box Wb w.heap.size 25 #[.int .i64 ln, .string nm, .slice ka kn kc, .slice a xs.length c] ∧ Box Wb (w.heap.size + 1) 29 #[.int .i64 0, .string ⟨#[]⟩, .slice none 0 0] ∧ Below w.heap.size w Wb ∧ Wb.heap.size = w.heap.size + 2) := ⟨pb, qb, hBb, nb⟩
  clear h hp pa pb qb hBb
  go_enter Try.func6, Try.ntmps6
  go_upto_region 2 with fail
  clear c0 c1 hWa hWb na nb
  obtain ⟨Wc, hWc⟩ : ∃ W, Wb.alloc (.cells #[.int .i64 ln, .string nm, .slice none 0 0] 29) = W := ⟨_, rfl⟩
  rw [hWc]
  have hI0 : Hid (BSt w ln nm (.slice ka kn kc) (.slice a xs.length c) (.slice none 0 0) (prs (xs.take 0)) Wc) := by
    obtain ⟨pb, qb, hBb, nb⟩ := hW0.out
    rw [← hWc]
    refine ⟨pb.past _, qb.past _, ?_, ownP_nil _ _, hBb.trans ((Below.refl _ _).alloc (by omega) _)⟩
    rw [← nb]
    exact Box.new _ _ _
  clear hWc hW0
  go_wp2_with fail
  go_loopw [4] (fun iv wr => ∃ (i : Nat) (v : Value), i ≤ xs.length ∧ iv = .int .i64 (i : Int) ∧ Hid (BSt w ln nm (.slice ka kn kc) (.slice a xs.length c) v (prs (xs.take i)) wr)) (fun iv _ => xs.length - (intOf iv).toNat)
  case atStart => exact ⟨0, .slice none 0 0, Nat.zero_le _, rfl, hI0⟩
  case round =>
    obtain ⟨i, v, hi, rfl, hI⟩ := hrel
    clear hI0
    have c3 : wr.cell? ⟨w.heap.size, 3, none⟩ = some (.slice a xs.length c) := (hI.out.1.cell 3 (by simp)).1
    by_cases hlt : i < xs.length
    · have i0 : (0 : Int) ≤ (i : Int) := Int.natCast_nonneg _
      have i1 : (i : Int) < (xs.length : Int) := Int.ofNat_lt.2 hlt
      have htk : Hid (prs (xs.take (i + 1)) = prs (xs.take i) ++ xs[i].l.map (fun v => (xs[i].d, v))) := by
        unfold Hid
        rw [List.take_succ_eq_append_getElem hlt, prs_snoc]
      have hpl : Hid ((prs (xs.take i)).length + xs[i].l.length ≤ 1048576) := by
        have h1 := prs_take_le xs (i + 1)
        rw [htk.out, List.length_append, List.length_map] at h1
        exact Nat.le_trans h1 hp'.out
      obtain ⟨⟨b, off, rfl, D0, D1, D2⟩, R0⟩ := h'.out i hlt
      obtain ⟨⟨xd, xc, xa, xn, xl⟩, hx⟩ : ∃ x, xs[i] = x := ⟨_, rfl⟩
      rw [hx] at D0 D1 D2 R0 htk hpl
      dsimp only at D0 D1 D2 R0 htk hpl
      have hr0 : Hid (w.cell? ⟨b, off + i * 3, none⟩ = some (.string (S xd)) ∧ w.cell? ⟨b, off + i * 3 + 2, none⟩ = some (.slice xa xl.length xn) ∧ Row w xa xl ∧ b < w.heap.size) := ⟨D0, D2, R0, World.block_lt_of_cell? w _ D0⟩
      have hlt' : Hid (i < xs.length) := hlt
      have hJ0 : Hid (BSt w ln nm (.slice ka kn kc) (.slice (some ⟨b, off, none⟩) xs.length c) v (prs (xs.take i) ++ (xl.take 0).map (fun v => (xd, v))) wr) := by
        unfold Hid
        rw [List.take_zero, List.map_nil, List.append_nil]
        exact hI.out
      clear hx hlt hI D0 D1 D2 R0
      go_wp2_with fail
      clear c3
      go_loopw [5] (fun jv wr => ∃ (j : Nat) (v : Value), j ≤ xl.length ∧ jv = .int .i64 (j : Int) ∧ Hid (BSt w ln nm (.slice ka kn kc) (.slice (some ⟨b, off, none⟩) xs.length c) v (prs (xs.take i) ++ (xl.take j).map (fun v => (xd, v))) wr)) (fun jv _ => xl.length - (intOf jv).toNat)
      case atStart => exact ⟨0, v, Nat.zero_le _, rfl, hJ0⟩
      case round =>
        obtain ⟨j, v, hj, rfl, hJ⟩ := hrel
        clear hJ0
        have c3 : wr.cell? ⟨w.heap.size, 3, none⟩ = some (.slice (some ⟨b, off, none⟩) xs.length c) := (hJ.out.1.cell 3 (by simp)).1
        have d0 : wr.cell? ⟨b, off + i * 3, none⟩ = some (.string (S xd)) := by rw [hJ.out.2.2.2.2.cell hr0.out.2.2.2]; exact hr0.out.1
        have d2 : wr.cell? ⟨b, off + i * 3 + 2, none⟩ = some (.slice xa xl.length xn) := by rw [hJ.out.2.2.2.2.cell hr0.out.2.2.2]; exact hr0.out.2.1
        by_cases hjt : j < xl.length
        · obtain ⟨b2, off2, rfl, CV⟩ := hr0.out.2.2.1 j hjt
          have hb2 : b2 < w.heap.size := World.block_lt_of_cell? w _ CV
          have cv : wr.cell? ⟨b2, off2 + j, none⟩ = some (.string (S xl[j])) := by rw [hJ.out.2.2.2.2.cell hb2]; exact CV
          have j0 : (0 : Int) ≤ (j : Int) := Int.natCast_nonneg _
          have j1 : (j : Int) < (xl.length : Int) := Int.ofNat_lt.2 hjt
          have hxl : xl.length ≤ 1048576 := by have := hpl.out; omega
          have hjk : Hid (xl.take (j + 1) = xl.take j ++ [xl[j]]) := List.take_succ_eq_append_getElem hjt
          obtain ⟨m, hm⟩ : ∃ m, xl[j] = m := ⟨_, rfl⟩
          rw [hm] at cv hjk
          have hjt' : Hid (j < xl.length) := hjt
          obtain ⟨L, hL⟩ : ∃ L, prs (xs.take i) ++ (xl.take j).map (fun v => (xd, v)) = L := ⟨_, rfl⟩
          have hLk : Hid (prs (xs.take i) ++ (xl.take (j + 1)).map (fun v => (xd, v)) = L ++ [(xd, m)]) := by
            unfold Hid
            rw [hjk.out, List.map_append, ← List.append_assoc, hL]
            rfl
          have hLl : L.length ≤ 4194304 := by
            have := hpl.out
            rw [← hL, List.length_append, List.length_map, List.length_take]
            omega
          rw [hL] at hJ
          obtain ⟨va, vc, rfl, _⟩ := owns_slice (show World.ownsRow _ _ 39 2 _ _ _ from hJ.out.2.2.2.1)
          have hbw : b < w.heap.size := hr0.out.2.2.2
          clear hjt hm hL hjk CV
          go_upto_region 8 with fail
          have hW : BSt w ln nm (.slice ka kn kc) (.slice (some ⟨b, off, none⟩) xs.length c) (.slice va L.length vc) L wr.drew := hJ.out.past ⟨rfl, rfl, rfl, Nat.le_refl _, fun _ _ => rfl⟩
          have hSW : wr.drew.cell? ⟨w.heap.size, 3, none⟩ = some (.slice (some ⟨b, off, none⟩) xs.length c) ∧ wr.drew.cell? ⟨b, off + i * 3, none⟩ = some (.string (S xd)) ∧ wr.drew.cell? ⟨b, off + i * 3 + 2, none⟩ = some (.slice (some ⟨b2, off2, none⟩) xl.length xn) ∧ wr.drew.cell? ⟨b2, off2 + j, none⟩ = some (.string (S m)) := ⟨c3, d0, d2, cv⟩
          clear hJ c3 d0 d2 cv
          refine wp_region_noPanic ?_
          refine wp_region_held_drew (S := fun W => W.cell? ⟨w.heap.size, 3, none⟩ = some (.slice (some ⟨b, off, none⟩) xs.length c) ∧ W.cell? ⟨b, off + i * 3, none⟩ = some (.string (S xd)) ∧ W.cell? ⟨b, off + i * 3 + 2, none⟩ = some (.slice (some ⟨b2, off2, none⟩) xl.length xn) ∧ W.cell? ⟨b2, off2 + j, none⟩ = some (.string (S m))) (by kernel_rfl) hSW (fun _ => ?_)
          generalize wr.drew = W0 at *
          have glW : W0.cell? ⟨w.heap.size + 2, 2, none⟩ = some (.slice va L.length vc) := (hW.2.2.1.cell 2 (by simp)).1
          have nW : w.heap.size + 3 ≤ W0.heap.size := hW.2.2.1.lt
          refine wpAnyH_take (i := 0) (v := ?va1) (by simp only [List.getElem?_toArray, List.getElem?_cons_zero]; exact rfl) (by kernel_rfl) (by kernel_rfl) (by kernel_rfl) (fun _ _ _ h => h) (Or.inl ⟨by rfl, ?ya1⟩) hSW ?ra1
          case ya1 =>
            intro w' hS
            obtain ⟨s0, s1, s2, s3⟩ := hS
            go_simp
            try with_reducible rfl
          case ra1 =>
          simp only [Act.put, List.setIfInBounds_toArray, List.set_cons_zero, List.set_cons_succ]
          refine wpAnyH_take (i := 2) (v := ?va2) (by simp only [List.getElem?_toArray, List.getElem?_cons_zero, List.getElem?_cons_succ]; exact rfl) (by kernel_rfl) (by kernel_rfl) (by kernel_rfl) (fun _ _ _ h => h) (Or.inl ⟨by rfl, ?ya2⟩) hSW ?ra2
          case ya2 =>
            intro w' hS
            obtain ⟨s0, s1, s2, s3⟩ := hS
            go_simp
            try with_reducible rfl
          case ra2 =>
          simp only [Act.put, List.setIfInBounds_toArray, List.set_cons_zero, List.set_cons_succ]
          refine wpAnyH_take (i := 3) (v := ?va3) (by simp only [List.getElem?_toArray, List.getElem?_cons_zero, List.getElem?_cons_succ]; exact rfl) (by kernel_rfl) (by kernel_rfl) (by kernel_rfl) (fun _ _ _ h => h) (Or.inl ⟨by rfl, ?ya3⟩) hSW ?ra3
          case ya3 =>
            intro w' hS
            obtain ⟨s0, s1, s2, s3⟩ := hS
            go_simp
            try with_reducible rfl
          case ra3 =>
          simp only [Act.put, List.setIfInBounds_toArray, List.set_cons_zero, List.set_cons_succ]
          refine wpAnyH_take (i := 4) (v := ?va4) (by simp only [List.getElem?_toArray, List.getElem?_cons_zero, List.getElem?_cons_succ]; exact rfl) (by kernel_rfl) (by kernel_rfl) (by kernel_rfl) (fun _ _ _ h => h) (Or.inl ⟨by rfl, ?ya4⟩) hSW ?ra4
          case ya4 =>
            intro w' hS
            obtain ⟨s0, s1, s2, s3⟩ := hS
            go_simp
            try with_reducible rfl
          case ra4 =>
          simp only [Act.put, List.setIfInBounds_toArray, List.set_cons_zero, List.set_cons_succ]
          refine wpAnyH_take (i := 5) (v := ?va5) (by simp only [List.getElem?_toArray, List.getElem?_cons_zero, List.getElem?_cons_succ]; exact rfl) (by kernel_rfl) (by kernel_rfl) (by kernel_rfl) (fun _ _ _ h => h) (Or.inl ⟨by rfl, ?ya5⟩) hSW ?ra5
          case ya5 =>
            intro w' hS
            obtain ⟨s0, s1, s2, s3⟩ := hS
            go_simp
            try with_reducible rfl
          case ra5 =>
          simp only [Act.put, List.setIfInBounds_toArray, List.set_cons_zero, List.set_cons_succ]
          refine wpAnyH_take (i := 6) (v := ?va6) (by simp only [List.getElem?_toArray, List.getElem?_cons_zero, List.getElem?_cons_succ]; exact rfl) (by kernel_rfl) (by kernel_rfl) (by kernel_rfl) (fun _ _ _ h => h) (Or.inl ⟨by rfl, ?ya6⟩) hSW ?ra6
          case ya6 =>
            intro w' hS
            obtain ⟨s0, s1, s2, s3⟩ := hS
            go_simp
            try with_reducible rfl
          case ra6 =>
          simp only [Act.put, List.setIfInBounds_toArray, List.set_cons_zero, List.set_cons_succ]
          refine wpAnyH_take (i := 7) (v := ?va7) (by simp only [List.getElem?_toArray, List.getElem?_cons_zero, List.getElem?_cons_succ]; exact rfl) (by kernel_rfl) (by kernel_rfl) (by kernel_rfl) (fun _ _ _ h => h) (Or.inl ⟨by rfl, ?ya7⟩) hSW ?ra7
          case ya7 =>
            intro w' hS
            obtain ⟨s0, s1, s2, s3⟩ := hS
            go_simp
            try with_reducible rfl
          case ra7 =>
          simp only [Act.put, List.setIfInBounds_toArray, List.set_cons_zero, List.set_cons_succ]
          refine wpAnyH_take (i := 8) (v := ?va8) (by simp only [List.getElem?_toArray, List.getElem?_cons_zero, List.getElem?_cons_succ]; exact rfl) (by kernel_rfl) (by kernel_rfl) (by kernel_rfl) (fun _ _ _ h => h) (Or.inl ⟨by rfl, ?ya8⟩) hSW ?ra8
          case ya8 =>
            intro w' hS
            obtain ⟨s0, s1, s2, s3⟩ := hS
            go_simp
            try with_reducible rfl
          case ra8 =>
          simp only [Act.put, List.setIfInBounds_toArray, List.set_cons_zero, List.set_cons_succ]
          refine wpAnyH_take (i := 9) (v := ?va9) (by simp only [List.getElem?_toArray, List.getElem?_cons_zero, List.getElem?_cons_succ]; exact rfl) (by kernel_rfl) (by kernel_rfl) (by kernel_rfl) (fun _ _ _ h => h) (Or.inl ⟨by rfl, ?ya9⟩) hSW ?ra9
          case ya9 =>
            intro w' hS
            obtain ⟨s0, s1, s2, s3⟩ := hS
            go_simp
            try with_reducible rfl
          case ra9 =>
          simp only [Act.put, List.setIfInBounds_toArray, List.set_cons_zero, List.set_cons_succ]
          refine wpAnyH_take (i := 10) (v := ?va10) (by simp only [List.getElem?_toArray, List.getElem?_cons_zero, List.getElem?_cons_succ]; exact rfl) (by kernel_rfl) (by kernel_rfl) (by kernel_rfl) (fun _ _ _ h => h) (Or.inl ⟨by rfl, ?ya10⟩) hSW ?ra10
          case ya10 =>
            intro w' hS
            obtain ⟨s0, s1, s2, s3⟩ := hS
            go_simp
            try with_reducible rfl
          case ra10 =>
          simp only [Act.put, List.setIfInBounds_toArray, List.set_cons_zero, List.set_cons_succ]
          refine wpAnyH_take (i := 11) (v := ?va11) (by simp only [List.getElem?_toArray, List.getElem?_cons_zero, List.getElem?_cons_succ]; exact rfl) (by kernel_rfl) (by kernel_rfl) (by kernel_rfl) (fun _ _ _ h => h) (Or.inl ⟨by rfl, ?ya11⟩) hSW ?ra11
          case ya11 =>
            intro w' hS
            obtain ⟨s0, s1, s2, s3⟩ := hS
            go_simp
            try with_reducible rfl
          case ra11 =>
          simp only [Act.put, List.setIfInBounds_toArray, List.set_cons_zero, List.set_cons_succ]
          refine wpAnyH_take (i := 12) (v := ?va12) (by simp only [List.getElem?_toArray, List.getElem?_cons_zero, List.getElem?_cons_succ]; exact rfl) (by kernel_rfl) (by kernel_rfl) (by kernel_rfl) (fun _ _ _ h => h) (Or.inl ⟨by rfl, ?ya12⟩) hSW ?ra12
          case ya12 =>
            intro w' hS
            obtain ⟨s0, s1, s2, s3⟩ := hS
            go_simp
            try with_reducible rfl
          case ra12 =>
          simp only [Act.put, List.setIfInBounds_toArray, List.set_cons_zero, List.set_cons_succ]
          refine wpAnyH_take (i := 13) (v := ?va13) (by simp only [List.getElem?_toArray, List.getElem?_cons_zero, List.getElem?_cons_succ]; exact rfl) (by kernel_rfl) (by kernel_rfl) (by kernel_rfl) (fun _ _ _ h => h) (Or.inl ⟨by rfl, ?ya13⟩) hSW ?ra13
          case ya13 =>
            intro w' hS
            obtain ⟨s0, s1, s2, s3⟩ := hS
            go_simp
            try with_reducible rfl
          case ra13 =>
          simp only [Act.put, List.setIfInBounds_toArray, List.set_cons_zero, List.set_cons_succ]
          refine wpAnyH_take (i := 14) (v := ?va14) (by simp only [List.getElem?_toArray, List.getElem?_cons_zero, List.getElem?_cons_succ]; exact rfl) (by kernel_rfl) (by kernel_rfl) (by kernel_rfl) (fun _ _ _ h => h) (Or.inl ⟨by rfl, ?ya14⟩) hSW ?ra14
          case ya14 =>
            intro w' hS
            obtain ⟨s0, s1, s2, s3⟩ := hS
            go_simp
            try with_reducible rfl
          case ra14 =>
          simp only [Act.put, List.setIfInBounds_toArray, List.set_cons_zero, List.set_cons_succ]
          refine wpAnyH_take (i := 15) (v := ?va15) (by simp only [List.getElem?_toArray, List.getElem?_cons_zero, List.getElem?_cons_succ]; exact rfl) (by kernel_rfl) (by kernel_rfl) (by kernel_rfl) (fun _ _ _ h => h) (Or.inl ⟨by rfl, ?ya15⟩) hSW ?ra15
          case ya15 =>
            intro w' hS
            obtain ⟨s0, s1, s2, s3⟩ := hS
            go_simp
            try with_reducible rfl
          case ra15 =>
          simp only [Act.put, List.setIfInBounds_toArray, List.set_cons_zero, List.set_cons_succ]
          refine wpAnyH_take (i := 16) (v := ?va16) (by simp only [List.getElem?_toArray, List.getElem?_cons_zero, List.getElem?_cons_succ]; exact rfl) (by kernel_rfl) (by kernel_rfl) (by kernel_rfl) (fun _ _ _ h => h) (Or.inl ⟨by rfl, ?ya16⟩) hSW ?ra16
          case ya16 =>
            intro w' hS
            obtain ⟨s0, s1, s2, s3⟩ := hS
            go_simp
            try with_reducible rfl
          case ra16 =>
          simp only [Act.put, List.setIfInBounds_toArray, List.set_cons_zero, List.set_cons_succ]
          refine wpAnyH_take (i := 17) (v := ?va17) (by simp only [List.getElem?_toArray, List.getElem?_cons_zero, List.getElem?_cons_succ]; exact rfl) (by kernel_rfl) (by kernel_rfl) (by kernel_rfl) (fun _ _ _ h => h) (Or.inl ⟨by rfl, ?ya17⟩) hSW ?ra17
          case ya17 =>
            intro w' hS
            obtain ⟨s0, s1, s2, s3⟩ := hS
            go_simp
            try with_reducible rfl
          case ra17 =>
          simp only [Act.put, List.setIfInBounds_toArray, List.set_cons_zero, List.set_cons_succ]
          refine wpAnyH_ready (rs := [1, 18]) (by kernel_rfl) (by simp) ?_
          refine AllReadyH.cons (by simp only [List.getElem?_toArray, List.getElem?_cons_zero, List.getElem?_cons_succ]; exact rfl) (fun K hK => ?_) (AllReadyH.cons (by simp only [List.getElem?_toArray, List.getElem?_cons_zero, List.getElem?_cons_succ]; exact rfl) (fun K hK => ?_) AllReadyH.nil)
          · go_simp
            refine hK.out _ _ hSW (fun _ => ?_)
            clear hK K
            refine wpAnyH_ready (rs := [18]) (by kernel_rfl) (by simp) ?_
            refine AllReadyH.cons (by simp only [List.getElem?_toArray, List.getElem?_cons_zero, List.getElem?_cons_succ]; exact rfl) (fun K hK => ?_) AllReadyH.nil
            go_simp
            have hSa : (W0.alloc (.cells #[.string (S xd), .string (S m)] 39)).cell? ⟨w.heap.size, 3, none⟩ = some (.slice (some ⟨b, off, none⟩) xs.length c) ∧ (W0.alloc (.cells #[.string (S xd), .string (S m)] 39)).cell? ⟨b, off + i * 3, none⟩ = some (.string (S xd)) ∧ (W0.alloc (.cells #[.string (S xd), .string (S m)] 39)).cell? ⟨b, off + i * 3 + 2, none⟩ = some (.slice (some ⟨b2, off2, none⟩) xl.length xn) ∧ (W0.alloc (.cells #[.string (S xd), .string (S m)] 39)).cell? ⟨b2, off2 + j, none⟩ = some (.string (S m)) := ⟨by rw [World.cell?_alloc_past _ _ _ (by show w.heap.size < _; omega)]; exact hSW.1, by rw [World.cell?_alloc_past _ _ _ (by show b < _; omega)]; exact hSW.2.1, by rw [World.cell?_alloc_past _ _ _ (by show b < _; omega)]; exact hSW.2.2.1, by rw [World.cell?_alloc_past _ _ _ (by show b2 < _; omega)]; exact hSW.2.2.2⟩
            have gla : (W0.alloc (.cells #[.string (S xd), .string (S m)] 39)).cell? ⟨w.heap.size + 2, 2, none⟩ = some (.slice va L.length vc) := by rw [World.cell?_alloc_past _ _ _ (by show w.heap.size + 2 < _; omega)]; exact glW
            refine hK.out _ _ hSa (fun _ => ?_)
            clear hK K
            refine wpAnyH_ready (rs := [19]) (by kernel_rfl) (by simp) ?_
            refine AllReadyH.cons (by simp only [List.getElem?_toArray, List.getElem?_cons_zero, List.getElem?_cons_succ]; exact rfl) (fun K hK => ?_) AllReadyH.nil
            refine step_pair _ (by rfl) _ _ (by rfl) (w.heap.size + 3) _ L (xd, m) _ (by rfl) (by rfl) ?_ ?_ ?_ hLl ?_
            · exact World.ownsRow.alloc hW.2.2.2.1 _
            · exact Box.new _ _ _
            · rw [World.size_alloc]; omega
            intro g2 cap2 w4 hown4 hk4 hb4
            have hWa : BSt w ln nm (.slice ka kn kc) (.slice (some ⟨b, off, none⟩) xs.length c) (.slice va L.length vc) L (W0.alloc (.cells #[.string (S xd), .string (S m)] 39)) := hW.past ((Below.refl _ _).alloc (Nat.le_refl _) _)
            have e4 : ∀ x, x < w.heap.size → w4.heap[x]? = W0.heap[x]? := fun x hx => by
              rw [hb4.block x (by omega), Below.heap_alloc _ _ _ (by omega)]
            have hbx : Box w4 w.heap.size 25 #[.int .i64 ln, .string nm, .slice ka kn kc, .slice (some ⟨b, off, none⟩) xs.length c] := hWa.1.of (hk4 _ hWa.1.lt (box_apart hWa.1 (show World.ownsRow _ _ 39 2 _ _ _ from hWa.2.2.2.1) (by decide)))
            have hS4 : w4.cell? ⟨w.heap.size, 3, none⟩ = some (.slice (some ⟨b, off, none⟩) xs.length c) ∧ w4.cell? ⟨b, off + i * 3, none⟩ = some (.string (S xd)) ∧ w4.cell? ⟨b, off + i * 3 + 2, none⟩ = some (.slice (some ⟨b2, off2, none⟩) xl.length xn) ∧ w4.cell? ⟨b2, off2 + j, none⟩ = some (.string (S m)) := ⟨(hbx.cell 3 (by simp)).1, by rw [World.cell?_of_block (w := W0) (e4 b hbw)]; exact hSW.2.1, by rw [World.cell?_of_block (w := W0) (e4 b hbw)]; exact hSW.2.2.1, by rw [World.cell?_of_block (w := W0) (e4 b2 hb2)]; exact hSW.2.2.2⟩
            have hr4 : Box w4 (w.heap.size + 2) 29 #[.int .i64 ln, .string nm, .slice va L.length vc] := hWa.2.2.1.of (hk4 _ hWa.2.2.1.lt (box_apart hWa.2.2.1 (show World.ownsRow _ _ 39 2 _ _ _ from hWa.2.2.2.1) (by decide)))
            have r2 : w4.cell? ⟨w.heap.size + 2, 2, none⟩ = some (.slice va L.length vc) := (hr4.cell 2 (by simp)).1
            have y2 : w4.frozen? ⟨w.heap.size + 2, 2, none⟩ = false := (hr4.cell 2 (by simp)).2
            refine hK.out _ _ hS4 (fun _ => ?_)
            clear hK K
            refine wpAnyH_take (i := 20) (v := ?va18) (by simp only [List.getElem?_toArray, List.getElem?_cons_zero, List.getElem?_cons_succ]; exact rfl) (by kernel_rfl) (by kernel_rfl) (by kernel_rfl) (fun _ _ _ h => h) (Or.inl ⟨by rfl, ?ya18⟩) hS4 ?ra18
            case ya18 =>
              intro w' hS
              obtain ⟨s0, s1, s2, s3⟩ := hS
              go_simp
              try with_reducible rfl
            case ra18 =>
            simp only [Act.put, List.setIfInBounds_toArray, List.set_cons_zero, List.set_cons_succ]
            refine wpAnyH_ready (rs := [21]) (by kernel_rfl) (by simp) ?_
            refine AllReadyH.cons (by simp only [List.getElem?_toArray, List.getElem?_cons_zero, List.getElem?_cons_succ]; exact rfl) (fun K hK => ?_) AllReadyH.nil
            go_simp
            have hS5 : (w4.setCell ⟨w.heap.size + 2, 2, none⟩ (.slice (some ⟨g2, 0, none⟩) (L.length + 1) cap2)).cell? ⟨w.heap.size, 3, none⟩ = some (.slice (some ⟨b, off, none⟩) xs.length c) ∧ (w4.setCell ⟨w.heap.size + 2, 2, none⟩ (.slice (some ⟨g2, 0, none⟩) (L.length + 1) cap2)).cell? ⟨b, off + i * 3, none⟩ = some (.string (S xd)) ∧ (w4.setCell ⟨w.heap.size + 2, 2, none⟩ (.slice (some ⟨g2, 0, none⟩) (L.length + 1) cap2)).cell? ⟨b, off + i * 3 + 2, none⟩ = some (.slice (some ⟨b2, off2, none⟩) xl.length xn) ∧ (w4.setCell ⟨w.heap.size + 2, 2, none⟩ (.slice (some ⟨g2, 0, none⟩) (L.length + 1) cap2)).cell? ⟨b2, off2 + j, none⟩ = some (.string (S m)) := ⟨by rw [World.cell?_setCell_other _ _ _ _ (by intro hh; injection hh with h1 _ _; omega)]; exact hS4.1, by rw [World.cell?_setCell_other _ _ _ _ (by intro hh; injection hh with h1 _ _; omega)]; exact hS4.2.1, by rw [World.cell?_setCell_other _ _ _ _ (by intro hh; injection hh with h1 _ _; omega)]; exact hS4.2.2.1, by rw [World.cell?_setCell_other _ _ _ _ (by intro hh; injection hh with h1 _ _; omega)]; exact hS4.2.2.2⟩
            refine hK.out _ _ hS5 (fun _ => ?_)
            clear hK K
            refine wpAnyH_done (by kernel_rfl) ?_ _
            refine NoPanic.normal ?_
            have hfin : Hid (BSt w ln nm (.slice ka kn kc) (.slice (some ⟨b, off, none⟩) xs.length c) (.slice (some ⟨g2, 0, none⟩) (L.length + 1) cap2) (L ++ [(xd, m)]) (w4.setCell ⟨w.heap.size + 2, 2, none⟩ (.slice (some ⟨g2, 0, none⟩) (L.length + 1) cap2))) := hWa.push hown4 hk4 hb4
            clear hS5 hS4 hbx hr4 r2 y2 hown4 hk4 hb4 e4 hWa hSW glW hW
            go_wp2_with fail
            go_roundw
            case rel => exact ⟨j + 1, (.slice (some ⟨g2, 0, none⟩) (L.length + 1) cap2), hjt'.out, by simp, by rw [hLk.out]; exact hfin⟩
            case measure => have := hjt'.out; simp [intOf]; omega
          · go_simp
            have hSa : (W0.alloc (.cells #[.string (S xd), .string (S m)] 39)).cell? ⟨w.heap.size, 3, none⟩ = some (.slice (some ⟨b, off, none⟩) xs.length c) ∧ (W0.alloc (.cells #[.string (S xd), .string (S m)] 39)).cell? ⟨b, off + i * 3, none⟩ = some (.string (S xd)) ∧ (W0.alloc (.cells #[.string (S xd), .string (S m)] 39)).cell? ⟨b, off + i * 3 + 2, none⟩ = some (.slice (some ⟨b2, off2, none⟩) xl.length xn) ∧ (W0.alloc (.cells #[.string (S xd), .string (S m)] 39)).cell? ⟨b2, off2 + j, none⟩ = some (.string (S m)) := ⟨by rw [World.cell?_alloc_past _ _ _ (by show w.heap.size < _; omega)]; exact hSW.1, by rw [World.cell?_alloc_past _ _ _ (by show b < _; omega)]; exact hSW.2.1, by rw [World.cell?_alloc_past _ _ _ (by show b < _; omega)]; exact hSW.2.2.1, by rw [World.cell?_alloc_past _ _ _ (by show b2 < _; omega)]; exact hSW.2.2.2⟩
            have gla : (W0.alloc (.cells #[.string (S xd), .string (S m)] 39)).cell? ⟨w.heap.size + 2, 2, none⟩ = some (.slice va L.length vc) := by rw [World.cell?_alloc_past _ _ _ (by show w.heap.size + 2 < _; omega)]; exact glW
            refine hK.out _ _ hSa (fun _ => ?_)
            clear hK K
            refine wpAnyH_ready (rs := [1]) (by kernel_rfl) (by simp) ?_
            refine AllReadyH.cons (by simp only [List.getElem?_toArray, List.getElem?_cons_zero, List.getElem?_cons_succ]; exact rfl) (fun K hK => ?_) AllReadyH.nil
            go_simp
            refine hK.out _ _ hSa (fun _ => ?_)
            clear hK K
            refine wpAnyH_ready (rs := [19]) (by kernel_rfl) (by simp) ?_
            refine AllReadyH.cons (by simp only [List.getElem?_toArray, List.getElem?_cons_zero, List.getElem?_cons_succ]; exact rfl) (fun K hK => ?_) AllReadyH.nil
            refine step_pair _ (by rfl) _ _ (by rfl) (w.heap.size + 3) _ L (xd, m) _ (by rfl) (by rfl) ?_ ?_ ?_ hLl ?_
            · exact World.ownsRow.alloc hW.2.2.2.1 _
            · exact Box.new _ _ _
            · rw [World.size_alloc]; omega
            intro g2 cap2 w4 hown4 hk4 hb4
            have hWa : BSt w ln nm (.slice ka kn kc) (.slice (some ⟨b, off, none⟩) xs.length c) (.slice va L.length vc) L (W0.alloc (.cells #[.string (S xd), .string (S m)] 39)) := hW.past ((Below.refl _ _).alloc (Nat.le_refl _) _)
            have e4 : ∀ x, x < w.heap.size → w4.heap[x]? = W0.heap[x]? := fun x hx => by
              rw [hb4.block x (by omega), Below.heap_alloc _ _ _ (by omega)]
            have hbx : Box w4 w.heap.size 25 #[.int .i64 ln, .string nm, .slice ka kn kc, .slice (some ⟨b, off, none⟩) xs.length c] := hWa.1.of (hk4 _ hWa.1.lt (box_apart hWa.1 (show World.ownsRow _ _ 39 2 _ _ _ from hWa.2.2.2.1) (by decide)))
            have hS4 : w4.cell? ⟨w.heap.size, 3, none⟩ = some (.slice (some ⟨b, off, none⟩) xs.length c) ∧ w4.cell? ⟨b, off + i * 3, none⟩ = some (.string (S xd)) ∧ w4.cell? ⟨b, off + i * 3 + 2, none⟩ = some (.slice (some ⟨b2, off2, none⟩) xl.length xn) ∧ w4.cell? ⟨b2, off2 + j, none⟩ = some (.string (S m)) := ⟨(hbx.cell 3 (by simp)).1, by rw [World.cell?_of_block (w := W0) (e4 b hbw)]; exact hSW.2.1, by rw [World.cell?_of_block (w := W0) (e4 b hbw)]; exact hSW.2.2.1, by rw [World.cell?_of_block (w := W0) (e4 b2 hb2)]; exact hSW.2.2.2⟩
            have hr4 : Box w4 (w.heap.size + 2) 29 #[.int .i64 ln, .string nm, .slice va L.length vc] := hWa.2.2.1.of (hk4 _ hWa.2.2.1.lt (box_apart hWa.2.2.1 (show World.ownsRow _ _ 39 2 _ _ _ from hWa.2.2.2.1) (by decide)))
            have r2 : w4.cell? ⟨w.heap.size + 2, 2, none⟩ = some (.slice va L.length vc) := (hr4.cell 2 (by simp)).1
            have y2 : w4.frozen? ⟨w.heap.size + 2, 2, none⟩ = false := (hr4.cell 2 (by simp)).2
            refine hK.out _ _ hS4 (fun _ => ?_)
            clear hK K
            refine wpAnyH_take (i := 20) (v := ?va19) (by simp only [List.getElem?_toArray, List.getElem?_cons_zero, List.getElem?_cons_succ]; exact rfl) (by kernel_rfl) (by kernel_rfl) (by kernel_rfl) (fun _ _ _ h => h) (Or.inl ⟨by rfl, ?ya19⟩) hS4 ?ra19
            case ya19 =>
              intro w' hS
              obtain ⟨s0, s1, s2, s3⟩ := hS
              go_simp
              try with_reducible rfl
            case ra19 =>
            simp only [Act.put, List.setIfInBounds_toArray, List.set_cons_zero, List.set_cons_succ]
            refine wpAnyH_ready (rs := [21]) (by kernel_rfl) (by simp) ?_
            refine AllReadyH.cons (by simp only [List.getElem?_toArray, List.getElem?_cons_zero, List.getElem?_cons_succ]; exact rfl) (fun K hK => ?_) AllReadyH.nil
            go_simp
            have hS5 : (w4.setCell ⟨w.heap.size + 2, 2, none⟩ (.slice (some ⟨g2, 0, none⟩) (L.length + 1) cap2)).cell? ⟨w.heap.size, 3, none⟩ = some (.slice (some ⟨b, off, none⟩) xs.length c) ∧ (w4.setCell ⟨w.heap.size + 2, 2, none⟩ (.slice (some ⟨g2, 0, none⟩) (L.length + 1) cap2)).cell? ⟨b, off + i * 3, none⟩ = some (.string (S xd)) ∧ (w4.setCell ⟨w.heap.size + 2, 2, none⟩ (.slice (some ⟨g2, 0, none⟩) (L.length + 1) cap2)).cell? ⟨b, off + i * 3 + 2, none⟩ = some (.slice (some ⟨b2, off2, none⟩) xl.length xn) ∧ (w4.setCell ⟨w.heap.size + 2, 2, none⟩ (.slice (some ⟨g2, 0, none⟩) (L.length + 1) cap2)).cell? ⟨b2, off2 + j, none⟩ = some (.string (S m)) := ⟨by rw [World.cell?_setCell_other _ _ _ _ (by intro hh; injection hh with h1 _ _; omega)]; exact hS4.1, by rw [World.cell?_setCell_other _ _ _ _ (by intro hh; injection hh with h1 _ _; omega)]; exact hS4.2.1, by rw [World.cell?_setCell_other _ _ _ _ (by intro hh; injection hh with h1 _ _; omega)]; exact hS4.2.2.1, by rw [World.cell?_setCell_other _ _ _ _ (by intro hh; injection hh with h1 _ _; omega)]; exact hS4.2.2.2⟩
            refine hK.out _ _ hS5 (fun _ => ?_)
            clear hK K
            refine wpAnyH_done (by kernel_rfl) ?_ _
            refine NoPanic.normal ?_
            have hfin : Hid (BSt w ln nm (.slice ka kn kc) (.slice (some ⟨b, off, none⟩) xs.length c) (.slice (some ⟨g2, 0, none⟩) (L.length + 1) cap2) (L ++ [(xd, m)]) (w4.setCell ⟨w.heap.size + 2, 2, none⟩ (.slice (some ⟨g2, 0, none⟩) (L.length + 1) cap2))) := hWa.push hown4 hk4 hb4
            clear hS5 hS4 hbx hr4 r2 y2 hown4 hk4 hb4 e4 hWa hSW glW hW
            go_wp2_with fail
            go_roundw
            case rel => exact ⟨j + 1, (.slice (some ⟨g2, 0, none⟩) (L.length + 1) cap2), hjt'.out, by simp, by rw [hLk.out]; exact hfin⟩
            case measure => have := hjt'.out; simp [intOf]; omega
        · have hje : j = xl.length := by omega
          subst hje
          have k1 : ¬ (xl.length : Int) < (xl.length : Int) := by omega
          rw [List.take_length, ← htk.out] at hJ
          go_wp2_with fail
          go_roundw
          case rel => exact ⟨i + 1, v, hlt'.out, by simp, hJ.out⟩
          case measure => have := hlt'.out; simp [intOf]; omega
    · have hie : i = xs.length := by omega
      subst hie
      rw [List.take_length] at hI
      have k1 : ¬ (xs.length : Int) < (xs.length : Int) := by omega
      obtain ⟨va, vc, rfl, _⟩ := owns_slice (show World.ownsRow _ _ 39 2 _ _ _ from hI.out.2.2.2.1)
      have q3 := hI.out.2.2.1
      have q2 := hI.out.2.1
      obtain ⟨e0, _⟩ := q3.cell 0 (by simp)
      obtain ⟨e1, _⟩ := q3.cell 1 (by simp)
      obtain ⟨e2, _⟩ := q3.cell 2 (by simp)
      obtain ⟨g0, z0⟩ := q2.cell 0 (by simp)
      obtain ⟨g1, z1⟩ := q2.cell 1 (by simp)
      obtain ⟨g2, z2⟩ := q2.cell 2 (by simp)
      simp only [List.getElem_toArray, List.getElem_cons_zero, List.getElem_cons_succ] at e0 e1 e2 g0 g1 g2
      obtain ⟨Wz, hWz⟩ : ∃ W, ((wr.setCell ⟨w.heap.size + 1, 0, none⟩ (.int .i64 ln)).setCell ⟨w.heap.size + 1, 1, none⟩ (.string nm)).setCell ⟨w.heap.size + 1, 2, none⟩ (.slice va (prs xs).length vc) = W := ⟨_, rfl⟩
      have hres : Box Wz (w.heap.size + 1) 29 #[.int .i64 ln, .string nm, .slice va (prs xs).length vc] := by rw [← hWz]; exact ((q2.set 0 _).set 1 _).set 2 _
      have hfin : OwnP Wz w.heap.size (.slice va (prs xs).length vc) (prs xs) ∧ Below w.heap.size w Wz := by
        rw [← hWz]
        refine ⟨owns_base (owns_same (show World.ownsRow _ _ 39 2 _ _ _ from hI.out.2.2.2.1) (fun k hk => set3_keep _ _ _ _ _ _ ?_)) (by omega), set3_below hI.out.2.2.2.2 (by omega)⟩
        have := (World.ownsRow.lt (show World.ownsRow _ _ 39 2 _ _ _ from hI.out.2.2.2.1) k hk).1
        omega
      have hfin' : Hid (OwnP Wz w.heap.size (.slice va (prs xs).length vc) (prs xs) ∧ Below w.heap.size w Wz) := hfin
      have hres' : Hid (Box Wz (w.heap.size + 1) 29 #[.int .i64 ln, .string nm, .slice va (prs xs).length vc]) := hres
      have hWz' : Hid (((wr.setCell ⟨w.heap.size + 1, 0, none⟩ (.int .i64 ln)).setCell ⟨w.heap.size + 1, 1, none⟩ (.string nm)).setCell ⟨w.heap.size + 1, 2, none⟩ (.slice va (prs xs).length vc) = Wz) := hWz
      clear hfin hres hI q2 q3 hWz
      go_wp2_with fail
      rw [hWz'.out]
      refine bodyPost_ret (results_cell _ _ _ rfl _ _ _ _ _ rfl (ld_record hres'.out)) rfl ⟨⟨_, rfl, hfin'.out.1⟩, hfin'.out.2⟩
end Go.Proofs.Ytfmcaccbphmlmaa
