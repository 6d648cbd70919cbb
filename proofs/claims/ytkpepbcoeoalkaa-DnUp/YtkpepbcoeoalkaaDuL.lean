import Derived.Test.YtkpepbcoeoalkaaDuK
namespace Go.Proofs.Ytkpepbcoeoalkaa
namespace Du
open Go.RowKit Go.Shelf
open GSeq (StB SeqG range_g range_gn)
set_option linter.unusedVariables false
set_option maxRecDepth 1000000
attribute [local go_sem] Oper.semAt_some


set_option maxHeartbeats 4000000 in
theorem range_two (wM A : World) (sb bw bq : Nat) (wa : Option Addr) (wc n : Nat) (sa : Option Addr) (sc : Nat) (L Ks : List PX) (B E kb g : Nat) (st : Int) (D : List Deferred) (Q : Exit → Act → World → Prop)
    {v0 v1 v2 v4 v6 v9 v10 v11 v12 v13 v14 v15 v16 v17 v18 v19 v20 v21 v22 v23 v24 v25 v26 v27 v28 v29 v30 v31 v32 v33 v34 v35 v36 v37 v38 v39 v40 v41 v42 v43 v44 v45 v46 v47 v48 v49 v50 v51 v52 v53 v54 v55 v56 v57 v59 v60 v61 v62 v63 v64 v65 v66 v67 v68 v69 v70 v71 v72 v73 v74 v75 v76 v77 v78 v79 v80 v81 v82 v83 v84 v85 v86 v87 v88 v89 v90 v91 v92 v93 v94 v95 v96 v97 v98 v99 v100 v101 v102 v103 v104 v105 v106 v107 v108 v109 v110 v111 v112 v113 v114 v115 v116 : Value}
    (hBs : Bs sb bw bq wa wc n sa sc L Ks B E kb g st wM) (hA : RgI wM A [] A)
    (hn : ∀ d W', A.heap.size ≤ d → RgI wM A [] W' ∨ True → Bx W' wM.heap.size 3 (.int .i64 ((n : Int) + 1)) → Below wM.heap.size wM W' → Nc A W' → W'.heap[d]? = some (.deferred (some [])) → Q .normal { tmps := (List.toArray (v0 :: v1 :: v2 :: (.pointer (some ⟨sb, 0, none⟩)) :: v4 :: (.pointer (some ⟨bw, 0, none⟩)) :: v6 :: (.pointer (some ⟨bq, 0, none⟩)) :: (.pointer (some ⟨wM.heap.size, 0, none⟩)) :: v9 :: v10 :: v11 :: v12 :: v13 :: v14 :: v15 :: v16 :: v17 :: v18 :: v19 :: v20 :: v21 :: v22 :: v23 :: v24 :: v25 :: v26 :: v27 :: v28 :: v29 :: v30 :: v31 :: v32 :: v33 :: v34 :: v35 :: v36 :: v37 :: v38 :: v39 :: v40 :: v41 :: v42 :: v43 :: v44 :: v45 :: v46 :: v47 :: v48 :: v49 :: v50 :: v51 :: v52 :: v53 :: v54 :: v55 :: v56 :: v57 :: (.func (.func 11) #[] #[.pointer (some ⟨kb, 0, none⟩)]) :: v59 :: v60 :: v61 :: v62 :: v63 :: v64 :: v65 :: v66 :: v67 :: v68 :: v69 :: v70 :: v71 :: v72 :: v73 :: v74 :: v75 :: v76 :: v77 :: v78 :: v79 :: v80 :: v81 :: v82 :: v83 :: v84 :: v85 :: v86 :: v87 :: v88 :: v89 :: v90 :: v91 :: v92 :: v93 :: v94 :: v95 :: v96 :: v97 :: v98 :: v99 :: v100 :: v101 :: v102 :: v103 :: v104 :: v105 :: v106 :: v107 :: v108 :: v109 :: v110 :: v111 :: v112 :: v113 :: v114 :: v115 :: v116 :: [])), defers := { target := .collected d, args := #[] } :: D } W')
    (c : Code) (hc : (Try.f3.body.bind fun b => (rngs b)[1]?) = some c) :
    c.wpIn Fence.wide 8 Try.prog Q { tmps := (List.toArray (v0 :: v1 :: v2 :: (.pointer (some ⟨sb, 0, none⟩)) :: v4 :: (.pointer (some ⟨bw, 0, none⟩)) :: v6 :: (.pointer (some ⟨bq, 0, none⟩)) :: (.pointer (some ⟨wM.heap.size, 0, none⟩)) :: v9 :: v10 :: v11 :: v12 :: v13 :: v14 :: v15 :: v16 :: v17 :: v18 :: v19 :: v20 :: v21 :: v22 :: v23 :: v24 :: v25 :: v26 :: v27 :: v28 :: v29 :: v30 :: v31 :: v32 :: v33 :: v34 :: v35 :: v36 :: v37 :: v38 :: v39 :: v40 :: v41 :: v42 :: v43 :: v44 :: v45 :: v46 :: v47 :: v48 :: v49 :: v50 :: v51 :: v52 :: v53 :: v54 :: v55 :: v56 :: v57 :: (.func (.func 11) #[] #[.pointer (some ⟨kb, 0, none⟩)]) :: v59 :: v60 :: v61 :: v62 :: v63 :: v64 :: v65 :: v66 :: v67 :: v68 :: v69 :: v70 :: v71 :: v72 :: v73 :: v74 :: v75 :: v76 :: v77 :: v78 :: v79 :: v80 :: v81 :: v82 :: v83 :: v84 :: v85 :: v86 :: v87 :: v88 :: v89 :: v90 :: v91 :: v92 :: v93 :: v94 :: v95 :: v96 :: v97 :: v98 :: v99 :: v100 :: v101 :: v102 :: v103 :: v104 :: v105 :: v106 :: v107 :: v108 :: v109 :: v110 :: v111 :: v112 :: v113 :: v114 :: v115 :: v116 :: [])), defers := D } A := by
  have hMA : wM.heap.size < A.heap.size := hA.1.lt
  have hc2 : some _ = some c := hc
  injection hc2 with hc3
  rw [← hc3]
  clear hc hc3
  have hE : E ≤ wM.heap.size := hBs.2.2.2.2.2.2.1
  have hKE : KeptE B E kb g n Ks A := hBs.2.2.2.2.2.1.move (RngK.of_below hA.2.1 hE)
  have hsdK : sd Ks = sd L := hBs.2.2.2.2.2.2.2.1
  have hLn : (sd L).length = n := by rw [sd_len]; exact hBs.2.2.2.1
  have hn1 : n ≤ 5864062014634 := hBs.2.2.2.2.2.2.2.2.1
  have hseq := up_stops 7 (by omega) B E kb g n Ks A hKE (by omega) hBs.2.2.2.2.2.2.2.2.2.2 hn1
  rw [hsdK] at hseq
  refine range_g rfl (by omega) (gf := 11) (lb := #[.pointer (some ⟨kb, 0, none⟩)]) rfl trivial (enters_of Try.func11 (by kernel_rfl) rfl)
    hseq RngK.trans (rngK_put (by omega)) (Below.refl _ _) (fun _ => rfl)
    (RgI wM A) (fun _ _ _ => False) (rgI_own (Nat.le_refl _) (by omega)) (fun _ _ _ _ _ h _ _ => h) hA
    (fun pre x B0 a' W => a' = { tmps := (List.toArray (v0 :: v1 :: v2 :: (.pointer (some ⟨sb, 0, none⟩)) :: v4 :: (.pointer (some ⟨bw, 0, none⟩)) :: v6 :: (.pointer (some ⟨bq, 0, none⟩)) :: (.pointer (some ⟨wM.heap.size, 0, none⟩)) :: v9 :: (.slice (some ⟨x.1, 0, none⟩) x.2.length x.2.length) :: v11 :: v12 :: v13 :: v14 :: v15 :: v16 :: v17 :: v18 :: v19 :: v20 :: v21 :: v22 :: v23 :: v24 :: v25 :: v26 :: v27 :: v28 :: v29 :: v30 :: v31 :: v32 :: v33 :: v34 :: v35 :: v36 :: v37 :: v38 :: v39 :: v40 :: v41 :: v42 :: v43 :: v44 :: v45 :: v46 :: v47 :: v48 :: v49 :: v50 :: v51 :: v52 :: v53 :: v54 :: v55 :: v56 :: v57 :: (.func (.func 11) #[] #[.pointer (some ⟨kb, 0, none⟩)]) :: (.slice (some ⟨x.1, 0, none⟩) x.2.length x.2.length) :: v60 :: v61 :: v62 :: v63 :: v64 :: v65 :: v66 :: v67 :: v68 :: v69 :: v70 :: v71 :: v72 :: v73 :: v74 :: v75 :: v76 :: v77 :: v78 :: v79 :: v80 :: v81 :: v82 :: v83 :: v84 :: v85 :: v86 :: v87 :: v88 :: v89 :: v90 :: v91 :: v92 :: v93 :: v94 :: v95 :: v96 :: v97 :: v98 :: v99 :: v100 :: v101 :: v102 :: v103 :: v104 :: v105 :: v106 :: v107 :: v108 :: v109 :: v110 :: v111 :: v112 :: v113 :: v114 :: v115 :: v116 :: [])), defers := [] } ∧ GE x B0 W ∧ RgI wM A pre W ∧ sd x.2 = (sd L).drop pre.length)
    ?hAx ?assign ?body ?done ?stop
  case hAx =>
    rintro pre x B0 a' _ W W' row ⟨h1, h2, h3, h4⟩ hg hr
    exact ⟨h1, h2.own hg hr, rgI_own (Nat.le_refl _) (by omega) _ _ _ _ h3 hg hr, h4⟩
  case stop =>
    rintro d c pre W hd _ h hK
    exact h.elim
  case done =>
    rintro d xs W hd hxs ⟨h1, h2, h3, h4⟩ hK
    have hl : xs.length = n + 1 := by
      have := congrArg List.length hxs
      rw [ups_len, hLn] at this
      simpa [sds] using this
    rw [hl] at h1
    exact hn d W hd (Or.inr trivial) (by simpa using h1) h2 h3 hK
  case assign =>
    rintro l' pre x Wa W K hIa hbW hIw hG hSp hlen hwl hK
    have hat := (sd_at hSp).2
    have hK' : Hid (∀ a' W', KeepsFrom A.heap.size W W' → RngK B E W W' → (a' = { tmps := (List.toArray (v0 :: v1 :: v2 :: (.pointer (some ⟨sb, 0, none⟩)) :: v4 :: (.pointer (some ⟨bw, 0, none⟩)) :: v6 :: (.pointer (some ⟨bq, 0, none⟩)) :: (.pointer (some ⟨wM.heap.size, 0, none⟩)) :: v9 :: (.slice (some ⟨x.1, 0, none⟩) x.2.length x.2.length) :: v11 :: v12 :: v13 :: v14 :: v15 :: v16 :: v17 :: v18 :: v19 :: v20 :: v21 :: v22 :: v23 :: v24 :: v25 :: v26 :: v27 :: v28 :: v29 :: v30 :: v31 :: v32 :: v33 :: v34 :: v35 :: v36 :: v37 :: v38 :: v39 :: v40 :: v41 :: v42 :: v43 :: v44 :: v45 :: v46 :: v47 :: v48 :: v49 :: v50 :: v51 :: v52 :: v53 :: v54 :: v55 :: v56 :: v57 :: (.func (.func 11) #[] #[.pointer (some ⟨kb, 0, none⟩)]) :: (.slice (some ⟨x.1, 0, none⟩) x.2.length x.2.length) :: v60 :: v61 :: v62 :: v63 :: v64 :: v65 :: v66 :: v67 :: v68 :: v69 :: v70 :: v71 :: v72 :: v73 :: v74 :: v75 :: v76 :: v77 :: v78 :: v79 :: v80 :: v81 :: v82 :: v83 :: v84 :: v85 :: v86 :: v87 :: v88 :: v89 :: v90 :: v91 :: v92 :: v93 :: v94 :: v95 :: v96 :: v97 :: v98 :: v99 :: v100 :: v101 :: v102 :: v103 :: v104 :: v105 :: v106 :: v107 :: v108 :: v109 :: v110 :: v111 :: v112 :: v113 :: v114 :: v115 :: v116 :: [])), defers := [] } ∧ GE x Wa.heap.size W' ∧ RgI wM A pre W' ∧ sd x.2 = (sd L).drop pre.length) → K a' W') := hK
    have hfin : Hid (GE x Wa.heap.size W ∧ RgI wM A pre W ∧ sd x.2 = (sd L).drop pre.length) := ⟨hG, hIw, hat⟩
    clear hK hbW hIa hIw hG hSp hlen hwl hat hn  hBs hA hKE hseq
    dsimp only [encE]
    gi_wp2
    exact hK'.out _ _ (KeepsFrom.refl _ _) (RngK.refl _ _ _) ⟨rfl, hfin.out⟩
  case body =>
    rintro l pre x B0 a' U hl hlr ⟨rfl, hG, ⟨hk, hUM, hnc, hAU⟩, hat⟩ hlen
    obtain ⟨p, hp⟩ : ∃ p, pre.length = p := ⟨_, rfl⟩
    rw [hp] at hat hlen hk
    obtain ⟨wb, wo, rfl, hcell, hsame⟩ := hBs.at hUM p hlen
    have hS : Hid (Calls Try.prog 9 #[.slice (some ⟨x.1, 0, none⟩) x.2.length x.2.length, .slice (cutA sa p sc) (n - p) (sc - p)] U fun e w' => e = .returned (.bool true) ∧ ∃ q, w' = U.drewN q) := hsame x B0 U hUM hG hat
    have cn := hk.cell
    have cw : U.cell? ⟨bw, 0, none⟩ = some (.slice (some ⟨wb, wo, none⟩) (n + 1) wc) := (hBs.1.2.1.below hUM hBs.1.2.1.lt).cell
    have p0 : (0 : Int) ≤ (p : Int) := Int.natCast_nonneg _
    have p1 : (p : Int) < ((n + 1 : Nat) : Int) := by omega
    have p2 : ¬ ((n : Int) + 1 ≤ (p : Int)) := by omega
    have nb : (n : Int) ≤ 5864062014634 := by omega
    have hmain : Hid (Below wM.heap.size wM U ∧ Bx U wM.heap.size 3 (.int .i64 (p : Int)) ∧ pre.length = p ∧ E ≤ wM.heap.size ∧ Nc A U ∧ A.heap.size ≤ U.heap.size ∧ p < n + 1 ∧ wM.heap.size < A.heap.size) := ⟨hUM, hk, hp, hE, hnc, hAU, hlen, hMA⟩
    have cst : U.cell? ⟨sb, 0, none⟩ = some (.int .i64 st) := (hBs.1.1.below hUM hBs.1.1.lt).cell
    obtain ⟨W3, hW3⟩ : ∃ W3 : Nat → World, ∀ q, (U.drewN q).setCell ⟨wM.heap.size, 0, none⟩ (.int .i64 ((p : Int) + 1)) = W3 q := ⟨_, fun q => rfl⟩
    obtain ⟨r₀, hlr⟩ := hlr
    have hQ3 : Hid (∀ q, Bx (W3 q) wM.heap.size 3 (.int .i64 ((p : Int) + 1)) ∧ Below wM.heap.size wM (W3 q) ∧ (∀ C, KeepsFrom C U (W3 q)) ∧ RngK B E U (W3 q) ∧ GE x B0 (W3 q) ∧ (W3 q).heap[l]? = some (.loop r₀)) := fun q => by
      obtain ⟨g1, g2, g3, g4, g5, g6, g7, g8⟩ := hmain.out
      have gb1 : Bx (U.drewN q) wM.heap.size 3 (.int .i64 (p : Int)) := g2
      have bq' : Below U.heap.size U (U.drewN q) := drewN_below _ _ _
      have k0 : ∀ C, KeepsFrom C U (W3 q) := fun C => by rw [← hW3 q]; exact (keeps_below bq').trans (keeps_box gb1 _)
      refine ⟨by rw [← hW3 q]; exact gb1.set _, ?_, k0, ?_, ?_, (k0 0).same l _ (Nat.zero_le _) hlr rfl⟩
      · rw [← hW3 q]
        exact (g1.trans (bq'.mono g1.size)).setCell (p := ⟨wM.heap.size, 0, none⟩) (Nat.le_refl _) _
      · rw [← hW3 q]
        exact (RngK.of_below bq' (by have := g1.size; omega)).trans ⟨by simp, fun k _ hk => Below.heap_setCell _ _ _ _ (show k ≠ wM.heap.size by omega)⟩
      · rw [← hW3 q]
        exact (hG.below bq').box gb1 _
    have hdr : Hid (∀ q, ((U.drewN q).cell? ⟨wM.heap.size, 0, none⟩ = some (.int .i64 (p : Int)) ∧ (U.drewN q).frozen? ⟨wM.heap.size, 0, none⟩ = false) ∧ (W3 q).cell? ⟨wM.heap.size, 0, none⟩ = some (.int .i64 ((p : Int) + 1)) ∧ (W3 q).cell? ⟨sb, 0, none⟩ = some (.int .i64 st)) := fun q => by
      have gb1 : Bx (U.drewN q) wM.heap.size 3 (.int .i64 (p : Int)) := hk
      exact ⟨⟨gb1.cell, gb1.frozen⟩, (hQ3.out q).1.cell, (hBs.1.1.below (hQ3.out q).2.1 hBs.1.1.lt).cell⟩
    have hend : Hid (∀ q W6, Below (W3 q).heap.size (W3 q) W6 → KeepsFrom A.heap.size U W6 ∧ RngK B E U W6 ∧ RgI wM A (pre ++ [x]) W6) := fun q W6 h6 => by
      obtain ⟨g1, g2, g3, g4, g5, g6, g7, g8⟩ := hmain.out
      obtain ⟨z1, z2, z3, z4, z5, z6⟩ := hQ3.out q
      have k0 : ∀ C, KeepsFrom C U W6 := fun C => (z3 C).trans (keeps_below h6)
      refine ⟨k0 _, z4.trans (RngK.of_below h6 (by have := z2.size; omega)), ?_, z2.trans (h6.mono z2.size), g5.keeps (k0 0), Nat.le_trans g6 (k0 0).size⟩
      rw [List.length_append, g3]
      have := z1.below h6 z1.lt
      simpa using this
    have hsm : Hid (∀ W6, Below wM.heap.size wM W6 → GE x B0 W6 → Calls Try.prog 9 #[.slice (some ⟨x.1, 0, none⟩) x.2.length x.2.length, .slice (cutA sa p sc) (n - p) (sc - p)] W6 fun e w' => e = .returned (.bool true) ∧ ∃ q, w' = W6.drewN q) := fun W6 h6 hg6 => hsame x B0 W6 h6 hg6 hat
    have hBs' : Hid (Bs sb bw bq (some ⟨wb, wo, none⟩) wc n sa sc L Ks B E kb g st wM) := hBs
    have hcl : Hid (∀ q W6, Below (W3 q).heap.size (W3 q) W6 → Below wM.heap.size wM W6 ∧ W6.cell? ⟨bw, 0, none⟩ = some (.slice (some ⟨wb, wo, none⟩) (n + 1) wc) ∧ W6.cell? ⟨bq, 0, none⟩ = some (.func (.func 11) #[] #[.pointer (some ⟨kb, 0, none⟩)]) ∧ W6.cell? ⟨wM.heap.size, 0, none⟩ = some (.int .i64 ((p : Int) + 1)) ∧ W6.cell? ⟨wb, wo + p, none⟩ = some (.slice (cutA sa p sc) (n - p) (sc - p)) ∧ GE x B0 W6) := fun q W6 h6 => by
      obtain ⟨z1, z2, z3, z4, z5, z6⟩ := hQ3.out q
      have hM6 : Below wM.heap.size wM W6 := z2.trans (h6.mono z2.size)
      refine ⟨hM6, (hBs.1.2.1.below hM6 hBs.1.2.1.lt).cell, (hBs.1.2.2.below hM6 hBs.1.2.2.lt).cell, (z1.below h6 z1.lt).cell, ?_, z5.below h6⟩
      obtain ⟨wb', wo', e', hc', _⟩ := hBs.at hM6 p hlen
      injection e' with e'
      injection e' with e1 e2
      subst e1 e2
      exact hc'
    have hpl : Hid (pre.length = p ∧ p < n + 1) := ⟨hp, hlen⟩
    generalize cutA sa p sc = ca at *
    obtain ⟨xn, hxn⟩ : ∃ xn, x.2.length = xn := ⟨_, rfl⟩
    obtain ⟨xg, hxg⟩ : ∃ xg, x.1 = xg := ⟨_, rfl⟩
    rw [hxn, hxg] at hS hsm ⊢
    clear hxn hxg hG hk hat hUM hn hBs hA hKE hseq hl hp hsame hlen hnc hAU cst
    try dsimp only
    by_cases hgo : p = 0 ∨ (p : Int) + 1 = st
    · by_cases hp0 : p = 0
      · have b1 : ((p : Int) + 1 == 1) = true := beq_iff_eq.2 (by omega)
        have b2 : ((p : Int) == 0) = true := beq_iff_eq.2 (by omega)
        have b3 : ((p : Int) + 1 != 1) = false := by rw [bne, b1]; rfl
        have b4 : ((p : Int) != 0) = false := by rw [bne, b2]; rfl
        have b5 : (p == 0) = true := beq_iff_eq.2 hp0
        have b6 : (p != 0) = false := by rw [bne, b5]; rfl
        clear hgo hp0
        gi_wp2_with (refine ⟨trivial, ?_⟩; gi_at_call 9; refine (CallsIn.inRound l (callsIn_wide.2 hS.out)).mono ?_; rintro e W2 ⟨rfl, q, rfl⟩; have hd := hdr.out q; have hw3 := hW3 q; obtain ⟨⟨hd1, hd2⟩, hd3, hd4⟩ := hd; obtain ⟨_, _, hcq, _, _, _⟩ := hcl.out q ((W3 q).alloc (.cells #[.int .i64 0] 3)) ((Below.refl _ _).alloc (Nat.le_refl _) _))
        obtain ⟨V, hV⟩ : ∃ V, W3 q = V := ⟨_, rfl⟩
        rw [hV]
        have hQV := hQ3.out q
        have hclV := hcl.out q
        have hendV := hend.out q
        rw [hV] at hQV hclV hendV
        have hclV' : Hid (∀ W6, Below V.heap.size V W6 → Below wM.heap.size wM W6 ∧ W6.cell? ⟨bw, 0, none⟩ = some (.slice (some ⟨wb, wo, none⟩) (n + 1) wc) ∧ W6.cell? ⟨bq, 0, none⟩ = some (.func (.func 11) #[] #[.pointer (some ⟨kb, 0, none⟩)]) ∧ W6.cell? ⟨wM.heap.size, 0, none⟩ = some (.int .i64 ((p : Int) + 1)) ∧ W6.cell? ⟨wb, wo + p, none⟩ = some (.slice ca (n - p) (sc - p)) ∧ GE x B0 W6) := hclV
        have hendV' : Hid (∀ W6, Below V.heap.size V W6 → KeepsFrom A.heap.size U W6 ∧ RngK B E U W6 ∧ RgI wM A (pre ++ [x]) W6) := hendV
        refine inner_range wM V sb bw bq (some ⟨wb, wo, none⟩) wc n sa sc L Ks B E kb g st l r₀ [] _ hBs'.out hQV.2.1 hQV.2.2.2.2.2 ?_ _ (by kernel_rfl)
        intro W5 hb5 hm5
        have cm5 := hm5.cell
        obtain ⟨y0, y1, y2, y3, y4, y5⟩ := hclV'.out W5 hb5
        have hS5 : Hid (Calls Try.prog 9 #[.slice (some ⟨xg, 0, none⟩) xn xn, .slice ca (n - p) (sc - p)] W5 fun e w' => e = .returned (.bool true) ∧ ∃ q, w' = W5.drewN q) := hsm.out W5 y0 y5
        have hb5' : Hid (Below V.heap.size V W5) := hb5
        have w1 : (p : Int) + 1 - 1 = (p : Int) := by omega
        clear hcl hclV hclV' hend hendV hQV hQ3 hsm y0 y5 hm5 hb5 hdr hcq hd1 hd2 hd3 hd4
        gi_wp2_with (refine ⟨trivial, ?_⟩; gi_at_call 9; refine (CallsIn.inRound l (callsIn_wide.2 hS5.out)).mono ?_; rintro e W2 ⟨rfl, q2, rfl⟩)
        exact hendV'.out _ (hb5'.out.trans ((drewN_below W5 W5.heap.size q2).mono hb5'.out.size))
      · have hst : (p : Int) + 1 = st := by
          rcases hgo with e | e
          · exact absurd e hp0
          · exact e
        have b1 : ((p : Int) + 1 == 1) = false := by rw [beq_eq_false_iff_ne]; omega
        have b2 : ((p : Int) == 0) = false := by rw [beq_eq_false_iff_ne]; omega
        have b3 : ((p : Int) + 1 != 1) = true := by rw [bne, b1]; rfl
        have b4 : ((p : Int) != 0) = true := by rw [bne, b2]; rfl
        have b5 : (p == 0) = false := by rw [beq_eq_false_iff_ne]; exact hp0
        have b6 : (p != 0) = true := by rw [bne, b5]; rfl
        have b7 : ((p : Int) + 1 == st) = true := beq_iff_eq.2 hst
        have b8 : ((p : Int) + 1 != st) = false := by rw [bne, b7]; rfl
        clear hgo hst
        gi_wp2_with (refine ⟨trivial, ?_⟩; gi_at_call 9; refine (CallsIn.inRound l (callsIn_wide.2 hS.out)).mono ?_; rintro e W2 ⟨rfl, q, rfl⟩; have hd := hdr.out q; have hw3 := hW3 q; obtain ⟨⟨hd1, hd2⟩, hd3, hd4⟩ := hd; obtain ⟨_, _, hcq, _, _, _⟩ := hcl.out q ((W3 q).alloc (.cells #[.int .i64 0] 3)) ((Below.refl _ _).alloc (Nat.le_refl _) _))
        obtain ⟨V, hV⟩ : ∃ V, W3 q = V := ⟨_, rfl⟩
        rw [hV]
        have hQV := hQ3.out q
        have hclV := hcl.out q
        have hendV := hend.out q
        rw [hV] at hQV hclV hendV
        have hclV' : Hid (∀ W6, Below V.heap.size V W6 → Below wM.heap.size wM W6 ∧ W6.cell? ⟨bw, 0, none⟩ = some (.slice (some ⟨wb, wo, none⟩) (n + 1) wc) ∧ W6.cell? ⟨bq, 0, none⟩ = some (.func (.func 11) #[] #[.pointer (some ⟨kb, 0, none⟩)]) ∧ W6.cell? ⟨wM.heap.size, 0, none⟩ = some (.int .i64 ((p : Int) + 1)) ∧ W6.cell? ⟨wb, wo + p, none⟩ = some (.slice ca (n - p) (sc - p)) ∧ GE x B0 W6) := hclV
        have hendV' : Hid (∀ W6, Below V.heap.size V W6 → KeepsFrom A.heap.size U W6 ∧ RngK B E U W6 ∧ RgI wM A (pre ++ [x]) W6) := hendV
        refine inner_range wM V sb bw bq (some ⟨wb, wo, none⟩) wc n sa sc L Ks B E kb g st l r₀ [] _ hBs'.out hQV.2.1 hQV.2.2.2.2.2 ?_ _ (by kernel_rfl)
        intro W5 hb5 hm5
        have cm5 := hm5.cell
        obtain ⟨y0, y1, y2, y3, y4, y5⟩ := hclV'.out W5 hb5
        have hS5 : Hid (Calls Try.prog 9 #[.slice (some ⟨xg, 0, none⟩) xn xn, .slice ca (n - p) (sc - p)] W5 fun e w' => e = .returned (.bool true) ∧ ∃ q, w' = W5.drewN q) := hsm.out W5 y0 y5
        have hb5' : Hid (Below V.heap.size V W5) := hb5
        have w1 : (p : Int) + 1 - 1 = (p : Int) := by omega
        clear hcl hclV hclV' hend hendV hQV hQ3 hsm y0 y5 hm5 hb5 hdr hcq hd1 hd2 hd3 hd4
        gi_wp2_with (refine ⟨trivial, ?_⟩; gi_at_call 9; refine (CallsIn.inRound l (callsIn_wide.2 hS5.out)).mono ?_; rintro e W2 ⟨rfl, q2, rfl⟩)
        exact hendV'.out _ (hb5'.out.trans ((drewN_below W5 W5.heap.size q2).mono hb5'.out.size))
    · have c1 : ¬ ((p : Int) = 0) := by omega
      have c2 : ¬ ((p : Int) + 1 = st) := fun e => hgo (Or.inr e)
      have b1 : ((p : Int) + 1 == 1) = false := by rw [beq_eq_false_iff_ne]; omega
      have b2 : ((p : Int) == 0) = false := by rw [beq_eq_false_iff_ne]; omega
      have b3 : ((p : Int) + 1 != 1) = true := by rw [bne, b1]; rfl
      have b4 : ((p : Int) != 0) = true := by rw [bne, b2]; rfl
      have b7 : ((p : Int) + 1 == st) = false := by rw [beq_eq_false_iff_ne]; exact c2
      have b8 : ((p : Int) + 1 != st) = true := by rw [bne, b7]; rfl
      clear hgo
      gi_wp2_with (refine ⟨trivial, ?_⟩; gi_at_call 9; refine (CallsIn.inRound l (callsIn_wide.2 hS.out)).mono ?_; rintro e W2 ⟨rfl, q, rfl⟩; have hd := hdr.out q; have hw3 := hW3 q; obtain ⟨⟨hd1, hd2⟩, hd3, hd4⟩ := hd)
      exact hend.out q _ (Below.refl _ _)
end Du
end Go.Proofs.Ytkpepbcoeoalkaa
