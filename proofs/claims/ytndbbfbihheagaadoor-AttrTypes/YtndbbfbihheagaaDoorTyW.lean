import Derived.Test.YtndbbfbihheagaaDoorTyJ
namespace Go.Proofs.YtndbbfbihheagaaDoor
namespace Ty
open Go.RowKit Go.Shelf
open Ak (KE EK kb OwnB)
open GSeq (StB SeqG range_g range_gn)
set_option linter.unusedVariables false
set_option maxRecDepth 1000000
attribute [local go_sem] Oper.semAt_some


set_option maxHeartbeats 4000000 in
theorem range_round (w wM A : World) (bw bq b wc bb c0 : Nat) (mst : Int) (D : List Deferred) (Q : Exit → Act → World → Prop)
    {v0 v6 v8 v9 v10 v11 v12 v13 v14 v15 v16 v17 v18 v19 v20 v21 v22 v23 v24 v25 v26 v27 v28 v29 v30 v32 v33 v34 v35 v36 v37 v38 v39 v40 v41 v42 v43 v44 v45 v46 v47 v48 v49 v50 v51 v52 v53 v54 v55 v56 v57 v58 v59 v60 v61 v62 v63 v64 v65 v66 v67 v68 v69 v70 v71 v72 v73 v74 v75 v76 v77 v78 v79 v80 v81 v82 v83 v84 v85 v86 v87 v88 v89 v90 v91 v92 v93 v94 v95 v96 v97 v98 v99 v100 v101 v102 v103 v104 v105 v106 v107 v108 v109 v110 v111 v112 v113 v114 v115 v116 v117 v118 v119 v120 v121 v122 v123 v124 v125 v126 v127 v128 v129 v130 v131 v132 v133 v134 v135 v136 v137 v138 v139 v140 v141 v142 v143 v144 v145 v146 v147 v148 v149 v150 : Value}
    (hBs : Bs w wM bw bq b wc mst) (hSb : Sb wM bb c0 A) (hc0 : c0 ≤ 500)
    (hn : ∀ d W', A.heap.size ≤ d → Sb wM bb (c0 + 62) W' → Nc A W' → W'.heap[d]? = some (.deferred (some [])) → Boxed W' A.heap.size 3 (.int .i64 62) → Q .normal { tmps := (List.toArray (v0 :: (.pointer (some ⟨w.heap.size, 0, none⟩)) :: (.pointer (some ⟨w.heap.size + 1, 0, none⟩)) :: (.pointer (some ⟨bw, 0, none⟩)) :: (.pointer (some ⟨bq, 0, none⟩)) :: (.pointer (some ⟨bb, 0, none⟩)) :: v6 :: (.pointer (some ⟨A.heap.size, 0, none⟩)) :: v8 :: v9 :: v10 :: v11 :: v12 :: v13 :: v14 :: v15 :: v16 :: v17 :: v18 :: v19 :: v20 :: v21 :: v22 :: v23 :: v24 :: v25 :: v26 :: v27 :: v28 :: v29 :: v30 :: (.func (.func 9) #[] #[]) :: v32 :: v33 :: v34 :: v35 :: v36 :: v37 :: v38 :: v39 :: v40 :: v41 :: v42 :: v43 :: v44 :: v45 :: v46 :: v47 :: v48 :: v49 :: v50 :: v51 :: v52 :: v53 :: v54 :: v55 :: v56 :: v57 :: v58 :: v59 :: v60 :: v61 :: v62 :: v63 :: v64 :: v65 :: v66 :: v67 :: v68 :: v69 :: v70 :: v71 :: v72 :: v73 :: v74 :: v75 :: v76 :: v77 :: v78 :: v79 :: v80 :: v81 :: v82 :: v83 :: v84 :: v85 :: v86 :: v87 :: v88 :: v89 :: v90 :: v91 :: v92 :: v93 :: v94 :: v95 :: v96 :: v97 :: v98 :: v99 :: v100 :: v101 :: v102 :: v103 :: v104 :: v105 :: v106 :: v107 :: v108 :: v109 :: v110 :: v111 :: v112 :: v113 :: v114 :: v115 :: v116 :: v117 :: v118 :: v119 :: v120 :: v121 :: v122 :: v123 :: v124 :: v125 :: v126 :: v127 :: v128 :: v129 :: v130 :: v131 :: v132 :: v133 :: v134 :: v135 :: v136 :: v137 :: v138 :: v139 :: v140 :: v141 :: v142 :: v143 :: v144 :: v145 :: v146 :: v147 :: v148 :: v149 :: v150 :: [])), defers := { target := .collected d, args := #[] } :: D } W')
    (hx : ∀ d W' p, A.heap.size ≤ d → p ≤ 62 → Sb wM bb (c0 + p) W' → Nc A W' → W'.heap[d]? = some (.deferred (some [])) → Boxed W' A.heap.size 3 (.int .i64 mst) → Q (.exit 2) { tmps := (List.toArray (v0 :: (.pointer (some ⟨w.heap.size, 0, none⟩)) :: (.pointer (some ⟨w.heap.size + 1, 0, none⟩)) :: (.pointer (some ⟨bw, 0, none⟩)) :: (.pointer (some ⟨bq, 0, none⟩)) :: (.pointer (some ⟨bb, 0, none⟩)) :: v6 :: (.pointer (some ⟨A.heap.size, 0, none⟩)) :: v8 :: v9 :: v10 :: v11 :: v12 :: v13 :: v14 :: v15 :: v16 :: v17 :: v18 :: v19 :: v20 :: v21 :: v22 :: v23 :: v24 :: v25 :: v26 :: v27 :: v28 :: v29 :: v30 :: (.func (.func 9) #[] #[]) :: v32 :: v33 :: v34 :: v35 :: v36 :: v37 :: v38 :: v39 :: v40 :: v41 :: v42 :: v43 :: v44 :: v45 :: v46 :: v47 :: v48 :: v49 :: v50 :: v51 :: v52 :: v53 :: v54 :: v55 :: v56 :: v57 :: v58 :: v59 :: v60 :: v61 :: v62 :: v63 :: v64 :: v65 :: v66 :: v67 :: v68 :: v69 :: v70 :: v71 :: v72 :: v73 :: v74 :: v75 :: v76 :: v77 :: v78 :: v79 :: v80 :: v81 :: v82 :: v83 :: v84 :: v85 :: v86 :: v87 :: v88 :: v89 :: v90 :: v91 :: v92 :: v93 :: v94 :: v95 :: v96 :: v97 :: v98 :: v99 :: v100 :: v101 :: v102 :: v103 :: v104 :: v105 :: v106 :: v107 :: v108 :: v109 :: v110 :: v111 :: v112 :: v113 :: v114 :: v115 :: v116 :: v117 :: v118 :: v119 :: v120 :: v121 :: v122 :: v123 :: v124 :: v125 :: v126 :: v127 :: v128 :: v129 :: v130 :: v131 :: v132 :: v133 :: v134 :: v135 :: v136 :: v137 :: v138 :: v139 :: v140 :: v141 :: v142 :: v143 :: v144 :: v145 :: v146 :: v147 :: v148 :: v149 :: v150 :: [])), defers := { target := .collected d, args := #[] } :: D } W')
    (c : Code) (hc : (Tryd.f3.body.bind rng1) = some c) :
    c.wpIn Fence.wide 8 Tryd.prog Q { tmps := (List.toArray (v0 :: (.pointer (some ⟨w.heap.size, 0, none⟩)) :: (.pointer (some ⟨w.heap.size + 1, 0, none⟩)) :: (.pointer (some ⟨bw, 0, none⟩)) :: (.pointer (some ⟨bq, 0, none⟩)) :: (.pointer (some ⟨bb, 0, none⟩)) :: v6 :: (.pointer (some ⟨A.heap.size, 0, none⟩)) :: v8 :: v9 :: v10 :: v11 :: v12 :: v13 :: v14 :: v15 :: v16 :: v17 :: v18 :: v19 :: v20 :: v21 :: v22 :: v23 :: v24 :: v25 :: v26 :: v27 :: v28 :: v29 :: v30 :: (.func (.func 9) #[] #[]) :: v32 :: v33 :: v34 :: v35 :: v36 :: v37 :: v38 :: v39 :: v40 :: v41 :: v42 :: v43 :: v44 :: v45 :: v46 :: v47 :: v48 :: v49 :: v50 :: v51 :: v52 :: v53 :: v54 :: v55 :: v56 :: v57 :: v58 :: v59 :: v60 :: v61 :: v62 :: v63 :: v64 :: v65 :: v66 :: v67 :: v68 :: v69 :: v70 :: v71 :: v72 :: v73 :: v74 :: v75 :: v76 :: v77 :: v78 :: v79 :: v80 :: v81 :: v82 :: v83 :: v84 :: v85 :: v86 :: v87 :: v88 :: v89 :: v90 :: v91 :: v92 :: v93 :: v94 :: v95 :: v96 :: v97 :: v98 :: v99 :: v100 :: v101 :: v102 :: v103 :: v104 :: v105 :: v106 :: v107 :: v108 :: v109 :: v110 :: v111 :: v112 :: v113 :: v114 :: v115 :: v116 :: v117 :: v118 :: v119 :: v120 :: v121 :: v122 :: v123 :: v124 :: v125 :: v126 :: v127 :: v128 :: v129 :: v130 :: v131 :: v132 :: v133 :: v134 :: v135 :: v136 :: v137 :: v138 :: v139 :: v140 :: v141 :: v142 :: v143 :: v144 :: v145 :: v146 :: v147 :: v148 :: v149 :: v150 :: [])), defers := D } (A.alloc (.cells #[.int .i64 0] 3)) := by
  obtain ⟨bv0, bs0, hSt0, hbl0⟩ := hSb.start
  have hsz : (A.alloc (.cells #[.int .i64 0] 3)).heap.size = A.heap.size + 1 := by simp
  have hMA : wM.heap.size ≤ A.heap.size := by
    obtain ⟨_, _, _, h1, _⟩ := hSb
    exact h1.size
  have hwM : w.heap.size ≤ wM.heap.size := hBs.bel.size
  have hncA : Nc A (A.alloc (.cells #[.int .i64 0] 3)) := fun k o hk _ => (Below.heap_alloc _ _ _ (Array.getElem?_eq_some_iff.1 hk).1).trans hk
  obtain ⟨W0, hW0⟩ : ∃ W0, A.alloc (.cells #[.int .i64 0] 3) = W0 := ⟨_, rfl⟩
  rw [hW0] at hSt0 hsz hncA ⊢
  have hI0 : RgI wM A bb A.heap.size c0 mst [] W0 := ⟨bv0, bs0, hSt0, hbl0, by have := hBs.mst1; simp; omega, hncA⟩
  have hc2 : some _ = some c := hc
  injection hc2 with hc3
  rw [← hc3]
  clear hc hc3 hSb hW0 hncA
  have hT : ∀ W', Below w.heap.size W0 W' → NumT3 W' := fun W' h => hBs.tab.below ((hBs.bel.trans (hSt0.bel.mono hwM)).trans h)
  refine range_g rfl (by omega) (gf := 9) (lb := #[]) rfl trivial (enters_of Tryd.func9 (by kernel_rfl) rfl)
    (types_stops 7 (by omega) w.heap.size W0 (by omega) hT) KpB.trans (KpB.book (by omega)) (Below.refl _ _) (fun _ => rfl)
    (RgI wM A bb A.heap.size c0 mst) (RgX wM A bb A.heap.size c0 mst) (rgI_own (by omega) (by omega)) (rgX_own (by omega) (by omega)) hI0
    (fun pre x B a' W => ∃ rb, a' = { tmps := (List.toArray (v0 :: (.pointer (some ⟨w.heap.size, 0, none⟩)) :: (.pointer (some ⟨w.heap.size + 1, 0, none⟩)) :: (.pointer (some ⟨bw, 0, none⟩)) :: (.pointer (some ⟨bq, 0, none⟩)) :: (.pointer (some ⟨bb, 0, none⟩)) :: v6 :: (.pointer (some ⟨A.heap.size, 0, none⟩)) :: (.int .i64 (x.1.1 : Int)) :: (.pointer (some ⟨rb, 0, none⟩)) :: v10 :: v11 :: v12 :: v13 :: v14 :: v15 :: v16 :: v17 :: v18 :: v19 :: v20 :: v21 :: v22 :: v23 :: v24 :: v25 :: v26 :: v27 :: v28 :: v29 :: v30 :: (.func (.func 9) #[] #[]) :: (.int .i64 (x.1.1 : Int)) :: (agT (x)) :: v34 :: v35 :: v36 :: v37 :: v38 :: v39 :: v40 :: v41 :: v42 :: v43 :: v44 :: v45 :: v46 :: v47 :: v48 :: v49 :: v50 :: v51 :: v52 :: v53 :: v54 :: v55 :: v56 :: v57 :: v58 :: v59 :: v60 :: v61 :: v62 :: v63 :: v64 :: v65 :: v66 :: v67 :: v68 :: v69 :: v70 :: v71 :: v72 :: v73 :: v74 :: v75 :: v76 :: v77 :: v78 :: v79 :: v80 :: v81 :: v82 :: v83 :: v84 :: v85 :: v86 :: v87 :: v88 :: v89 :: v90 :: v91 :: v92 :: v93 :: v94 :: v95 :: v96 :: v97 :: v98 :: v99 :: v100 :: v101 :: v102 :: v103 :: v104 :: v105 :: v106 :: v107 :: v108 :: v109 :: v110 :: v111 :: v112 :: v113 :: v114 :: v115 :: v116 :: v117 :: v118 :: v119 :: v120 :: v121 :: v122 :: v123 :: v124 :: v125 :: v126 :: v127 :: v128 :: v129 :: v130 :: v131 :: v132 :: v133 :: v134 :: v135 :: v136 :: v137 :: v138 :: v139 :: v140 :: v141 :: v142 :: v143 :: v144 :: v145 :: v146 :: v147 :: v148 :: v149 :: v150 :: [])), defers := [] } ∧ AxI wM A bb A.heap.size c0 mst pre x B rb W)
    ?hAx ?assign ?body ?done ?stop
  case hAx =>
    rintro pre x B a' _ W W' row ⟨rb, h1, h2⟩ hg hr
    exact ⟨rb, h1, axI_own (by omega) (by omega) pre x B rb () W W' row h2 hg hr⟩
  case assign =>
    rintro l pre x Wa W K ⟨bv, bs, hSt, hbl, hms, hnc⟩ hbW ⟨bv', bs', hSt', hbl', hms', hnc'⟩ hG hSp hlen hwl hK
    obtain ⟨aa, ac, hx2⟩ := gt_slice hG
    obtain ⟨i, al⟩ := x
    have hx2' : al = .slice aa (aliL i).length ac := hx2
    subst hx2'
    have hS2 := hSt.below hbW
    have hnc2 : Nc A W := hnc.chT (M := 0) (ChT.of_below hbW)
    have hfr := hSt.fr
    have hnum := (pre_num hSp).1
    have hMl : wM.heap.size ≤ Wa.heap.size := hSt.bel.size
    have hfin : Hid (∀ rb, rb = W.heap.size → AxI wM A bb A.heap.size c0 mst pre (i, .slice aa (aliL i).length ac) Wa.heap.size rb (W.alloc (.cells #[.string (rowL i).1, .slice aa (aliL i).length ac, .string (rowL i).2.2, .string (supN i), .int .i64 (SYN.getD i.1 0), .int .i64 (USG.getD i.1 0)] 32))) := by
      rintro rb rfl
      have hb : Below W.heap.size W (W.alloc (.cells #[.string (rowL i).1, .slice aa (aliL i).length ac, .string (rowL i).2.2, .string (supN i), .int .i64 (SYN.getD i.1 0), .int .i64 (USG.getD i.1 0)] 32)) := (Below.refl _ _).alloc (Nat.le_refl _) _
      exact ⟨World.alloc_heap_new W _, Nat.le_trans hbW.size hb.size, gt_below hG hb, hnum, bv, bs, hS2.below hb, hbl, hms, hnc2.chT (M := 0) (ChT.of_below hb), hfr, hMl⟩
    have hwW : w.heap.size ≤ W.heap.size := by have := hbW.size; omega
    have hK' : Hid (∀ a' W', KeepsFrom W0.heap.size W W' → KpB w.heap.size W W' → (∃ rb, a' = { tmps := (List.toArray (v0 :: (.pointer (some ⟨w.heap.size, 0, none⟩)) :: (.pointer (some ⟨w.heap.size + 1, 0, none⟩)) :: (.pointer (some ⟨bw, 0, none⟩)) :: (.pointer (some ⟨bq, 0, none⟩)) :: (.pointer (some ⟨bb, 0, none⟩)) :: v6 :: (.pointer (some ⟨A.heap.size, 0, none⟩)) :: (.int .i64 (i.1 : Int)) :: (.pointer (some ⟨rb, 0, none⟩)) :: v10 :: v11 :: v12 :: v13 :: v14 :: v15 :: v16 :: v17 :: v18 :: v19 :: v20 :: v21 :: v22 :: v23 :: v24 :: v25 :: v26 :: v27 :: v28 :: v29 :: v30 :: (.func (.func 9) #[] #[]) :: (.int .i64 (i.1 : Int)) :: (agT (i, .slice aa (aliL i).length ac)) :: v34 :: v35 :: v36 :: v37 :: v38 :: v39 :: v40 :: v41 :: v42 :: v43 :: v44 :: v45 :: v46 :: v47 :: v48 :: v49 :: v50 :: v51 :: v52 :: v53 :: v54 :: v55 :: v56 :: v57 :: v58 :: v59 :: v60 :: v61 :: v62 :: v63 :: v64 :: v65 :: v66 :: v67 :: v68 :: v69 :: v70 :: v71 :: v72 :: v73 :: v74 :: v75 :: v76 :: v77 :: v78 :: v79 :: v80 :: v81 :: v82 :: v83 :: v84 :: v85 :: v86 :: v87 :: v88 :: v89 :: v90 :: v91 :: v92 :: v93 :: v94 :: v95 :: v96 :: v97 :: v98 :: v99 :: v100 :: v101 :: v102 :: v103 :: v104 :: v105 :: v106 :: v107 :: v108 :: v109 :: v110 :: v111 :: v112 :: v113 :: v114 :: v115 :: v116 :: v117 :: v118 :: v119 :: v120 :: v121 :: v122 :: v123 :: v124 :: v125 :: v126 :: v127 :: v128 :: v129 :: v130 :: v131 :: v132 :: v133 :: v134 :: v135 :: v136 :: v137 :: v138 :: v139 :: v140 :: v141 :: v142 :: v143 :: v144 :: v145 :: v146 :: v147 :: v148 :: v149 :: v150 :: [])), defers := [] } ∧ AxI wM A bb A.heap.size c0 mst pre (i, .slice aa (aliL i).length ac) Wa.heap.size rb W') → K a' W') := hK
    have hwW' : Hid (w.heap.size ≤ W.heap.size) := hwW
    clear hK hSt hbl hms hnc hbW hSt' hbl' hms' hnc' hG hSp hlen hwl hS2 hnc2 hfr hnum hMl hx2 hn hx hI0 hT hSt0 hbl0 hBs hwW
    dsimp only [encT, agT]
    obtain ⟨n1, hn1⟩ : ∃ x, (rowL i).1 = x := ⟨_, rfl⟩
    obtain ⟨n2, hn2⟩ : ∃ x, (rowL i).2.2 = x := ⟨_, rfl⟩
    obtain ⟨n3, hn3⟩ : ∃ x, (supN i) = x := ⟨_, rfl⟩
    obtain ⟨n4, hn4⟩ : ∃ x, SYN.getD i.1 0 = x := ⟨_, rfl⟩
    obtain ⟨n5, hn5⟩ : ∃ x, USG.getD i.1 0 = x := ⟨_, rfl⟩
    obtain ⟨n6, hn6⟩ : ∃ x, (aliL i).length = x := ⟨_, rfl⟩
    dsimp only [agT] at hK'
    simp only [hn1, hn2, hn3, hn4, hn5, hn6] at hK' hfin ⊢
    gi_wp2
    exact hK'.out _ _ ((KeepsOthers.alloc _ _).from _) (KpB.below hwW'.out ((Below.refl _ _).alloc (Nat.le_refl _) _)) ⟨_, rfl, hfin.out _ rfl⟩
  case done =>
    rintro d xs W hd hxs ⟨bv, bs, hSt, hbl, hms, hnc⟩ hK
    have hl : xs.length = 62 := by
      have := congrArg List.length hxs
      rw [List.length_map, upF_len 62 (by omega)] at this
      exact this
    rw [hl] at hSt hbl
    exact hn d W (by omega) (Sb.of hSt hbl) hnc hK hSt.nbx
  case stop =>
    rintro d c pre W hd hp ⟨rfl, bv, bs, hSt, hbl, hms, hnc⟩ hK
    have hl : pre.length ≤ 62 := by
      have := hp.length_le
      rw [List.length_map, upF_len 62 (by omega)] at this
      exact this
    have hnb := hSt.nbx
    rw [hms] at hnb
    exact wpIn_exit (hx d W pre.length (by omega) hl (Sb.of hSt hbl) hnc hK hnb)
  case body =>
    rintro l pre x B a' U hl ⟨r₀, hlr⟩ ⟨rb, rfl, hrb, hBU, hG, hnum, bv, bs, hSt, hbl, hms, hnc, hFr, hMB⟩ hlen
    obtain ⟨aa, ac, hx2⟩ := gt_slice hG
    obtain ⟨i, al⟩ := x
    have hx2' : al = .slice aa (aliL i).length ac := hx2
    subst hx2'
    obtain ⟨p, hp⟩ : ∃ p, pre.length = p := ⟨_, rfl⟩
    rw [hp] at hnum hlen hSt hbl hms
    have hi : i = ⟨p, hlen⟩ := Fin.ext hnum
    subst hi
    obtain ⟨bl, hwc, hwr⟩ := wnt_at (hBs.wnt.below hSt.bel) hlen
    obtain ⟨b1, b2, b3, hb'⟩ := rowIs_slice (x := (⟨p, hlen⟩, bl)) hwr
    have hb'' : bl = .slice b1 b2 b3 := hb'
    subst hb''
    have hss := ss_of hSt.nbx.cell (boxed_bel hBs.want hSt.bel hBs.want.lt).cell hrb hwc
    have hsa := same_al hG hwr
    obtain ⟨ba, bc, hbv, hbq⟩ := Ak.ownB_any hSt.kbk.book
    clear hbq
    subst hbv
    obtain ⟨t, ht⟩ : ∃ t, c0 + p = t := ⟨_, rfl⟩
    rw [ht] at hbl
    obtain ⟨bn, hbn⟩ : ∃ bn, (kb bs).length = bn := ⟨_, rfl⟩
    have hbn2 : bn = 2 * t := by rw [← hbn]; unfold kb; rw [List.length_map]; exact hbl
    rw [hbn] at hSt hFr
    have htd : ((bn : Nat) : Int).tdiv 2 = (t : Int) := by rw [Int.tdiv_eq_ediv_of_nonneg (Int.natCast_nonneg _)]; omega
    have ht5 : t ≤ 600 := by omega
    have htw : wrap64 (t : Int) = (t : Int) := by unfold wrap64; omega
    obtain ⟨L, hL⟩ : ∃ L, aliL ⟨p, hlen⟩ = L := ⟨_, rfl⟩
    obtain ⟨n, hn'⟩ : ∃ n, L.length = n := ⟨_, rfl⟩
    have hn1 : n ≤ 1 := by rw [← hn', ← hL]; exact aliL_len _
    have hGO : OwnS U B (.slice aa n ac) L := by
      have := hG.1
      simp only [hL, hn'] at this
      exact this
    have hlU : ∀ g, (Value.slice aa n ac).ownBlock = some g → ∃ cs, U.heap[g]? = some (.cells cs 9 (0, 0)) := fun g hg => ownS_cells hGO hg
    have hrl : (Value.slice aa n ac).ownBlock ≠ some rb := fun e => by
      obtain ⟨cs, hc⟩ := hlU rb e
      rw [hrb] at hc
      injection hc with hc
      injection hc with _ hc
      exact absurd hc (by decide)
    have hMw : w.heap.size ≤ wM.heap.size := hwM
    have hwA : w.heap.size ≠ A.heap.size := by have := hBs.most.lt; omega
    have hmain : Hid (St wM bb A.heap.size p (.slice ba bn bc) bs U ∧ bs.length = 2 * t ∧ Fr B bb A.heap.size (.slice ba bn bc) bs ∧ Nc A U ∧ wM.heap.size ≤ B ∧ B ≤ U.heap.size ∧ Bs w wM bw bq b wc mst ∧ (p : Int) < mst ∧ pre.length = p ∧ c0 + p = t ∧ t ≤ 600 ∧ w.heap.size ≤ wM.heap.size ∧ n ≤ 1 ∧ L.length = n) := ⟨hSt, hbl, hFr, hnc, hMB, hBU, hBs, hms, hp, ht, ht5, hwM, hn1, hn'⟩
    have hlr' : Hid (U.heap[l]? = some (.loop r₀)) := hlr
    have hlU' : Hid (∀ g, (Value.slice aa n ac).ownBlock = some g → ∃ cs, U.heap[g]? = some (.cells cs 9 (0, 0))) := hlU
    have hrl' : Hid ((Value.slice aa n ac).ownBlock ≠ some rb) := hrl
    have hGO' : Hid (OwnS U B (.slice aa n ac) L) := hGO
    have hrb' : Hid (∃ cs, U.heap[rb]? = some (.cells cs 32 (0, 0)) ∧ cs[1]? = some (.slice aa n ac)) := by
      refine ⟨_, hrb, ?_⟩
      simp only [hL, hn']
      rfl
    have hlen' : Hid (p < 62) := hlen
    have hbox : Boxed U bb 27 (.slice ba bn bc) := hSt.box
    have hbox' : Hid (Boxed U bb 27 (.slice ba bn bc)) := hbox
    have hwA' : Hid (w.heap.size ≠ A.heap.size) := hwA
    clear hx2 hb' hwc hwr hG hrb hnum hn hx hI0 hT hBs hl hlr hp hsz hSt hbl hms hnc hFr hMB hBU hSt0 hbl0 hlU hrl hGO hbox hbn hbn2 hwA hMw hn1 hn' ht5 hMA hwM hc0 ht
    dsimp only
    simp only [hL] at hss hsa ⊢
    gi_wp2
    refine reg15 U A.heap.size bw rb b p wc _ _ _ _ _ aa b1 _ ac b2 b3 l _ [] _ hlen'.out hss hsa ?_ _ (by kernel_rfl)
    intro o34 o35 o36 o37 o38 o39 o40 o41 o42 o43 o44 o45 o46 o47 o48 o49 o50 W1 hb1
    clear hss hsa
    have hMk := mark_any t (by have := hmain.out.2.2.2.2.2.2.2.2.2.2.1; omega) W1
    have cb1 : W1.cell? ⟨bb, 0, none⟩ = some (.slice ba bn bc) := (boxed_bel hbox'.out hb1 hbox'.out.lt).cell
    have hb1' : Hid (Below U.heap.size U W1) := hb1
    have hMk' : Hid (Calls Tryd.prog 7 #[.int .i64 (t : Int)] W1 fun e w' => e = .returned (.string (S (mk t))) ∧ Below W1.heap.size W1 w') := hMk
    clear hb1 hMk
    obtain ⟨M, hM⟩ : ∃ M, S (mk t) = M := ⟨_, rfl⟩
    rw [hM] at hMk'
    gi_wp2_with (refine ⟨trivial, ?_⟩; gi_at_call 7; refine (CallsIn.inRound l (callsIn_wide.2 hMk'.out)).mono ?_; rintro e W2 ⟨rfl, hb2⟩; have hb2' : Hid (Below W1.heap.size W1 W2) := hb2; clear hb2)
    have hO2 : OwnS W2 B (.slice aa n ac) L := Ak.ownS_below (Ak.ownS_below hGO'.out hb1'.out) hb2'.out
    have hO2' : Hid (OwnS W2 B (.slice aa n ac) L) := hO2
    clear hO2 cb1 hMk'
    gi_loopw [11] (fun kv wr => ∃ j : Nat, j ≤ n ∧ kv = .int .i64 (j : Int) ∧ Hid (OwnS wr B (.slice aa n ac) (Ak.msL (mk t) j L) ∧ Ak.Ch (fun g => (Value.slice aa n ac).ownBlock = some g) W2 wr)) (fun kv _ => n - (intOf kv).toNat)
    case atStart => exact ⟨0, Nat.zero_le _, rfl, by rw [show Ak.msL (mk t) 0 L = L by unfold Ak.msL; simp]; exact hO2'.out, ⟨rfl, rfl, rfl, Nat.le_refl _, fun _ _ _ => rfl⟩⟩
    case round =>
      obtain ⟨j, hj, rfl, HO⟩ := hrel
      have j0 : (0 : Int) ≤ (j : Int) := Int.natCast_nonneg _
      have hrc : wr.cell? ⟨rb, 1, none⟩ = some (.slice aa n ac) := by
        obtain ⟨cs, h1, h2⟩ := hrb'.out
        have e1 : W1.heap[rb]? = some (.cells cs 32 (0, 0)) := (hb1'.out.block _ (Array.getElem?_eq_some_iff.1 h1).1).trans h1
        have e2 : W2.heap[rb]? = some (.cells cs 32 (0, 0)) := (hb2'.out.block _ (Array.getElem?_eq_some_iff.1 e1).1).trans e1
        have e3 : wr.heap[rb]? = some (.cells cs 32 (0, 0)) := (HO.out.2.2.2.2.2 rb (Array.getElem?_eq_some_iff.1 e2).1 (fun q => hrl'.out q)).trans e2
        rw [cell_of_row wr rb 1 _ _ _ e3]
        exact h2
      have hnn : (n : Int) ≤ 1 := by have := hmain.out.2.2.2.2.2.2.2.2.2.2.2.2.1; omega
      by_cases hlt : j < n
      · have j1 : (j : Int) < (n : Int) := Int.ofNat_lt.2 hlt
        have hLn := hmain.out.2.2.2.2.2.2.2.2.2.2.2.2.2
        have hlk : (Ak.msL (mk t) j L).length = n := by rw [Ak.msL_len (mk t) j L (by omega), hLn]
        obtain ⟨g, hg⟩ : ∃ g, aa = some ⟨g, 0, none⟩ := by
          rcases ownS_form HO.out.1 with ⟨h, h'⟩ | ⟨g, cap, h⟩
          · rw [h'] at hlk; simp at hlk; omega
          · injection h with h; exact ⟨g, h⟩
        subst hg
        have hO1 : OwnS wr B (.slice (some ⟨g, 0, none⟩) (Ak.msL (mk t) j L).length ac) (Ak.msL (mk t) j L) := by rw [hlk]; exact HO.out.1
        have q0 := ownS_cell hO1 j (by omega)
        have r0 := Ak.own_free (show wr.ownsRow B 9 1 _ (Ak.msL (mk t) j L).length (sv (Ak.msL (mk t) j L)) from hO1) j
        have hset := Ak.ownS_set hO1 j (mk t)
        rw [Ak.msL_step (mk t) j L (by omega), hlk, hM] at hset
        have hfin : Hid (OwnS (wr.setCell ⟨g, j, none⟩ (.string M)) B (.slice (some ⟨g, 0, none⟩) n ac) (Ak.msL (mk t) (j + 1) L) ∧ Ak.Ch (fun x => (Value.slice (some ⟨g, 0, none⟩) n ac).ownBlock = some x) W2 (wr.setCell ⟨g, j, none⟩ (.string M))) := ⟨hset, HO.out.2.put g _ _ rfl⟩
        have hlt' : Hid (j < n) := hlt
        generalize S (Ak.msL (mk t) j L)[j] = z0 at *
        clear HO hO1 hset hlk hlt hLn hj
        gi_wp2
        refine ⟨⟨j + 1, hlt'.out, by simp, hfin.out⟩, ?_⟩
        have := hlt'.out
        simp [intOf]
        omega
      · have hje : j = n := by omega
        have hLn := hmain.out.2.2.2.2.2.2.2.2.2.2.2.2.2
        obtain ⟨m1, m2, m3, m4, m5, m6, m7, m8, m9, m10, m11, m12, m13, m14⟩ := hmain.out
        have hOr : OwnS wr.drew B (.slice aa n ac) (List.replicate n (mk t)) := by
          have h := HO.out.1
          rw [hje, ← hLn, Ak.msL_end, hLn] at h
          exact h
        have hcc : Ak.Ch (fun g => (Value.slice aa n ac).ownBlock = some g) U wr.drew := (Ak.Ch.of_below (hb1'.out.trans (hb2'.out.mono hb1'.out.size))).trans HO.out.2
        obtain ⟨more, W3, bv', W4, r1, r2, ⟨ma, mc, hmore⟩, hv, hbx2, hbx4, hc2, hSt', hT⟩ := keep_all (W := wr.drew) (t := t) m1 m3 m2 (by omega) (by omega) m5 m6 hOr hlU'.out hcc
        subst hmore
        rw [hM] at r1
        have hr3 : W3.cell? ⟨rb, 1, none⟩ = some (.slice aa n ac) := by
          obtain ⟨cs, h1, h2⟩ := hrb'.out
          have e3 : W3.heap[rb]? = some (.cells cs 32 (0, 0)) := (hc2.2.2.2.2 rb (Array.getElem?_eq_some_iff.1 h1).1 (fun q => hrl'.out q)).trans h1
          rw [cell_of_row W3 rb 1 _ _ _ e3]
          exact h2
        have hcb : wr.cell? ⟨bb, 0, none⟩ = some (.slice ba bn bc) := by
          have hne : (Value.slice aa n ac).ownBlock ≠ some bb := fun e => by
            have h1 := (ownS_lt HO.out.1 e).1
            have h2 := m3.1
            omega
          have e1 := boxed_bel (boxed_bel hbox'.out hb1'.out hbox'.out.lt) hb2'.out (boxed_bel hbox'.out hb1'.out hbox'.out.lt).lt
          exact ((HO.out.2.2.2.2.2 bb e1.lt (fun q => hne q)).trans e1 : wr.heap[bb]? = _) |> fun h => (show Boxed wr bb 27 (.slice ba bn bc) from h).cell
        have r1' : Hid ((Builtin.append_ #[28, 28] 28 #[.slice aa n ac, .slice (some ⟨wr.drew.heap.size, 0, none⟩) 1 1]).run Tryd.prog (wr.drew.alloc (.cells #[.string M] 9)) = .ok (.slice ma (n + 1) mc) W3) := r1
        have r2' : Hid ((Builtin.append_ #[27, 27] 27 #[.slice ba bn bc, .slice (some ⟨W3.heap.size, 0, none⟩) 2 2]).run Tryd.prog (W3.alloc (.cells #[.slice aa n ac, .slice ma (n + 1) mc] 28)) = .ok bv' W4) := r2
        have hcb' : Hid (wr.cell? ⟨bb, 0, none⟩ = some (.slice ba bn bc) ∧ (W3.cell? ⟨bb, 0, none⟩ = some (.slice ba bn bc) ∧ W3.cell? ⟨rb, 1, none⟩ = some (.slice aa n ac)) ∧ Boxed W4 bb 27 (.slice ba bn bc) ∧ ∃ a n c, bv' = .slice a n c) := ⟨hcb, ⟨hbx2.cell, hr3⟩, hbx4, hv⟩
        have hSt2 : Hid (St wM bb A.heap.size p bv' (bs ++ [(.slice aa n ac, mk t, n), (.slice ma (n + 1) mc, mk t, n + 1)]) (W4.setCell ⟨bb, 0, none⟩ bv') ∧ ChT wM.heap.size U (W4.setCell ⟨bb, 0, none⟩ bv')) := ⟨hSt', hT⟩
        have hrc' : Hid (wr.cell? ⟨rb, 1, none⟩ = some (.slice aa n ac)) := hrc
        have j1 : ¬ (j : Int) < (n : Int) := by omega
        have hms : Hid ((p : Int) < mst) := m8
        clear m1 m2 m3 m4 m5 m6 m7 m8 m9 m10 m11 m12 m13 m14 hOr hcc r1 r2 hv hbx2 hbx4 hc2 hSt' hT hr3 hcb hlt hje hLn HO hj
        gi_wp2
        refine reg22 wr W3 W4 bb rb n bn M aa ba ma ac bc mc bv' l _ [] _ hcb'.out.1 hrc'.out r1'.out r2'.out hcb'.out.2.1 hcb'.out.2.2.1 hcb'.out.2.2.2 ?_ _ (by kernel_rfl)
        intro o68 o69 o70 o71 o72 o73 o74 o75 o76 o77
        clear hcb' r1' r2' hrc' hrc
        obtain ⟨V, hV⟩ : ∃ V, W4.setCell ⟨bb, 0, none⟩ bv' = V := ⟨_, rfl⟩
        rw [hV] at hSt2 ⊢
        clear hV
        obtain ⟨m1, m2, m3, m4, m5, m6, m7, m8, m9, m10, m11, m12, m13, m14⟩ := hmain.out
        have hUM : wM.heap.size ≤ U.heap.size := m1.bel.size
        have hEnd : Hid (∀ W', Below V.heap.size V W' → (W'.cell? ⟨A.heap.size, 0, none⟩ = some (.int .i64 (p : Int)) ∧ W'.frozen? ⟨A.heap.size, 0, none⟩ = false ∧ W'.cell? ⟨w.heap.size, 0, none⟩ = some (.int .i64 mst) ∧ W'.cell? ⟨bw, 0, none⟩ = some (.slice (some ⟨b, 0, none⟩) 62 wc) ∧ W'.cell? ⟨bq, 0, none⟩ = some (.func (.func 9) #[] #[])) ∧
            KeepsFrom W0.heap.size U (W'.setCell ⟨A.heap.size, 0, none⟩ (.int .i64 ((p : Int) + 1))) ∧ KpB w.heap.size U (W'.setCell ⟨A.heap.size, 0, none⟩ (.int .i64 ((p : Int) + 1))) ∧
            Nc A (W'.setCell ⟨A.heap.size, 0, none⟩ (.int .i64 ((p : Int) + 1))) ∧ ∃ bv bs, St wM bb A.heap.size (p + 1) bv bs (W'.setCell ⟨A.heap.size, 0, none⟩ (.int .i64 ((p : Int) + 1))) ∧ bs.length = 2 * (c0 + (p + 1))) := fun W' hb => by
          have hS := hSt2.out.1.below hb
          have hT1 : ChT wM.heap.size U (W'.setCell ⟨A.heap.size, 0, none⟩ (.int .i64 ((p : Int) + 1))) := (hSt2.out.2.trans (ChT.of_below hb)).trans (ChT.box hS.nbx rfl (by have := hS.lo; omega))
          refine ⟨⟨hS.nbx.cell, hS.nbx.frozen, (boxed_bel m7.most hS.bel m7.most.lt).cell, (boxed_bel m7.want hS.bel m7.want.lt).cell, (boxed_bel m7.seq hS.bel m7.seq.lt).cell⟩, hT1.keeps, hT1.kp hUM m12, m4.chT hT1, _, _, hS.next, ?_⟩
          rw [List.length_append, m2]
          simp
          omega
        have hVb : Hid (Below wM.heap.size wM V ∧ V.heap[l]? = some (.loop r₀) ∧ Bs w wM bw bq b wc mst ∧ pre.length = p) := ⟨hSt2.out.1.bel, hSt2.out.2.loop hlr'.out, m7, m9⟩
        obtain ⟨⟨cn, fn, cm, cw, cq⟩, hE⟩ := hEnd.out V (Below.refl _ _)
        have hE0 : Hid (KeepsFrom W0.heap.size U (V.setCell ⟨A.heap.size, 0, none⟩ (.int .i64 ((p : Int) + 1))) ∧ KpB w.heap.size U (V.setCell ⟨A.heap.size, 0, none⟩ (.int .i64 ((p : Int) + 1))) ∧
            Nc A (V.setCell ⟨A.heap.size, 0, none⟩ (.int .i64 ((p : Int) + 1))) ∧ ∃ bv bs, St wM bb A.heap.size (p + 1) bv bs (V.setCell ⟨A.heap.size, 0, none⟩ (.int .i64 ((p : Int) + 1))) ∧ bs.length = 2 * (c0 + (p + 1))) := hE
        have p0 : (0 : Int) ≤ (p : Int) := Int.natCast_nonneg _
        have p1 : (p : Int) < 62 := by have := hlen'.out; omega
        have hwA := hwA'.out
        clear m1 m2 m3 m4 m5 m6 m7 m8 m9 m10 m11 m12 m13 m14 hE hUM
        have hpl : Hid (∀ y : El, (pre ++ [y]).length = p + 1) := fun y => by rw [List.length_append, hVb.out.2.2.2]; rfl
        by_cases q1 : (p : Int) = 1
        · have d1 : ((p : Int) == 1) = true := by rw [q1]; rfl
          clear q1
          have cqK : (V.alloc (.cells #[.int .i64 0] 3)).cell? ⟨bq, 0, none⟩ = some (.func (.func 9) #[] #[]) := (hEnd.out _ ((Below.refl _ _).alloc (Nat.le_refl _) _)).1.2.2.2.2
          clear hE0
          gi_wp2
          refine inner_range w wM V bw bq b wc l mst r₀ [] _ hVb.out.2.2.1 hVb.out.1 hVb.out.2.1 ?_ _ (by kernel_rfl)
          intro W5 hb5 hk5
          obtain ⟨⟨cn5, fn5, cm5, cw5, cq5⟩, hE5⟩ := hEnd.out W5 hb5
          have hE6 : Hid (KeepsFrom W0.heap.size U (W5.setCell ⟨A.heap.size, 0, none⟩ (.int .i64 ((p : Int) + 1))) ∧ KpB w.heap.size U (W5.setCell ⟨A.heap.size, 0, none⟩ (.int .i64 ((p : Int) + 1))) ∧ Nc A (W5.setCell ⟨A.heap.size, 0, none⟩ (.int .i64 ((p : Int) + 1))) ∧ ∃ bv bs, St wM bb A.heap.size (p + 1) bv bs (W5.setCell ⟨A.heap.size, 0, none⟩ (.int .i64 ((p : Int) + 1))) ∧ bs.length = 2 * (c0 + (p + 1))) := hE5
          have ck5 := hk5.cell
          clear cn fn cm cw cq cqK hb5 hk5 hE5 hEnd hSt2
          by_cases hme : (p : Int) + 1 = mst
          · gi_wp2
            obtain ⟨e1, e2, e3, bv, bs, e4, e5⟩ := hE6.out
            rw [hme] at e1 e2 e3 e4
            exact ⟨e1, rfl, bv, bs, by rw [hpl.out]; exact e4, by rw [hpl.out]; exact e5, by rw [hpl.out]; simpa using hme, e3⟩
          · gi_wp2
            obtain ⟨e1, e2, e3, bv, bs, e4, e5⟩ := hE6.out
            exact ⟨e1, e2, bv, bs, by rw [hpl.out]; exact e4, by rw [hpl.out]; exact e5, by rw [hpl.out]; have := hms.out; simp; omega, e3⟩
        · have d1 : ((p : Int) == 1) = false := by rw [beq_eq_false_iff_ne]; exact q1
          by_cases q2 : (p : Int) = 30
          · have d2 : ((p : Int) == 30) = true := by rw [q2]; rfl
            clear q1 q2
            have cqK : (V.alloc (.cells #[.int .i64 0] 3)).cell? ⟨bq, 0, none⟩ = some (.func (.func 9) #[] #[]) := (hEnd.out _ ((Below.refl _ _).alloc (Nat.le_refl _) _)).1.2.2.2.2
            clear hE0
            gi_wp2
            refine inner_range w wM V bw bq b wc l mst r₀ [] _ hVb.out.2.2.1 hVb.out.1 hVb.out.2.1 ?_ _ (by kernel_rfl)
            intro W5 hb5 hk5
            obtain ⟨⟨cn5, fn5, cm5, cw5, cq5⟩, hE5⟩ := hEnd.out W5 hb5
            have hE6 : Hid (KeepsFrom W0.heap.size U (W5.setCell ⟨A.heap.size, 0, none⟩ (.int .i64 ((p : Int) + 1))) ∧ KpB w.heap.size U (W5.setCell ⟨A.heap.size, 0, none⟩ (.int .i64 ((p : Int) + 1))) ∧ Nc A (W5.setCell ⟨A.heap.size, 0, none⟩ (.int .i64 ((p : Int) + 1))) ∧ ∃ bv bs, St wM bb A.heap.size (p + 1) bv bs (W5.setCell ⟨A.heap.size, 0, none⟩ (.int .i64 ((p : Int) + 1))) ∧ bs.length = 2 * (c0 + (p + 1))) := hE5
            have ck5 := hk5.cell
            clear cn fn cm cw cq cqK hb5 hk5 hE5 hEnd hSt2
            by_cases hme : (p : Int) + 1 = mst
            · gi_wp2
              obtain ⟨e1, e2, e3, bv, bs, e4, e5⟩ := hE6.out
              rw [hme] at e1 e2 e3 e4
              exact ⟨e1, rfl, bv, bs, by rw [hpl.out]; exact e4, by rw [hpl.out]; exact e5, by rw [hpl.out]; simpa using hme, e3⟩
            · gi_wp2
              obtain ⟨e1, e2, e3, bv, bs, e4, e5⟩ := hE6.out
              exact ⟨e1, e2, bv, bs, by rw [hpl.out]; exact e4, by rw [hpl.out]; exact e5, by rw [hpl.out]; have := hms.out; simp; omega, e3⟩
          · have d2 : ((p : Int) == 30) = false := by rw [beq_eq_false_iff_ne]; exact q2
            clear q1 q2 hEnd hSt2
            by_cases hme : (p : Int) + 1 = mst
            · gi_wp2
              obtain ⟨e1, e2, e3, bv, bs, e4, e5⟩ := hE0.out
              rw [hme] at e1 e2 e3 e4
              exact ⟨e1, rfl, bv, bs, by rw [hpl.out]; exact e4, by rw [hpl.out]; exact e5, by rw [hpl.out]; simpa using hme, e3⟩
            · gi_wp2
              obtain ⟨e1, e2, e3, bv, bs, e4, e5⟩ := hE0.out
              exact ⟨e1, e2, bv, bs, by rw [hpl.out]; exact e4, by rw [hpl.out]; exact e5, by rw [hpl.out]; have := hms.out; simp; omega, e3⟩
end Ty
end Go.Proofs.YtndbbfbihheagaaDoor
