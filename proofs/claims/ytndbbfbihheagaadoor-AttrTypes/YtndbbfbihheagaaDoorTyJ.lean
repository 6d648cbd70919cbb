import Derived.Test.YtndbbfbihheagaaDoorTyL
namespace Go.Proofs.YtndbbfbihheagaaDoor
namespace Ty
open Go.RowKit Go.Shelf
open Ak (KE EK kb OwnB)
open GSeq (StB SeqG range_g range_gn)
set_option linter.unusedVariables false
set_option maxRecDepth 1000000
attribute [local go_sem] Oper.semAt_some

/-- The first ranging over a function in a code. -/
def rng1 : Code → Option Code
  | .rangeFunc g ps a b => some (.rangeFunc g ps a b)
  | .seq a b => match rng1 a with
    | some c => some c
    | none => rng1 b
  | .cond _ a b => match rng1 a with
    | some c => some c
    | none => rng1 b
  | .block _ a => rng1 a
  | .loop a => rng1 a
  | .scope a => rng1 a
  | _ => none
/-- The ranging inside it. -/
def rng2 : Code → Option Code
  | .rangeFunc _ _ _ b => rng1 b
  | _ => none

set_option maxHeartbeats 4000000 in
theorem inner_range (w wM V : World) (bw bq b wc l : Nat) (mst : Int) (r₀ : Loop) (D : List Deferred) (Q : Exit → Act → World → Prop)
    {v0 v1 v2 v4 v5 v6 v7 v8 v9 v10 v11 v13 v14 v15 v16 v17 v18 v19 v20 v21 v22 v23 v24 v25 v26 v27 v28 v29 v30 v31 v32 v33 v34 v35 v36 v37 v38 v39 v40 v41 v42 v43 v44 v45 v46 v47 v48 v49 v50 v51 v52 v53 v54 v55 v56 v57 v58 v59 v60 v61 v62 v63 v64 v65 v66 v67 v68 v69 v70 v71 v72 v73 v74 v75 v76 v77 v78 v79 v80 v81 v82 v83 v85 v86 v87 v88 v89 v90 v91 v92 v93 v94 v95 v96 v97 v98 v99 v100 v101 v102 v103 v104 v105 v106 v107 v108 v109 v110 v111 v112 v113 v114 v115 v116 v117 v118 v119 v120 v121 v122 v123 v124 v125 v126 v127 v128 v129 v130 v131 v132 v133 v134 v135 v136 v137 v138 v139 v140 v141 v142 v143 v144 v145 v146 v147 v148 v149 v150 : Value}
    (hBs : Bs w wM bw bq b wc mst) (hV : Below wM.heap.size wM V) (hl : V.heap[l]? = some (.loop r₀))
    (hn : ∀ W', Below V.heap.size V W' → Boxed W' V.heap.size 3 (.int .i64 62) → Q .normal { tmps := (List.toArray (v0 :: v1 :: v2 :: (.pointer (some ⟨bw, 0, none⟩)) :: v4 :: v5 :: v6 :: v7 :: v8 :: v9 :: v10 :: v11 :: (.pointer (some ⟨V.heap.size, 0, none⟩)) :: v13 :: v14 :: v15 :: v16 :: v17 :: v18 :: v19 :: v20 :: v21 :: v22 :: v23 :: v24 :: v25 :: v26 :: v27 :: v28 :: v29 :: v30 :: v31 :: v32 :: v33 :: v34 :: v35 :: v36 :: v37 :: v38 :: v39 :: v40 :: v41 :: v42 :: v43 :: v44 :: v45 :: v46 :: v47 :: v48 :: v49 :: v50 :: v51 :: v52 :: v53 :: v54 :: v55 :: v56 :: v57 :: v58 :: v59 :: v60 :: v61 :: v62 :: v63 :: v64 :: v65 :: v66 :: v67 :: v68 :: v69 :: v70 :: v71 :: v72 :: v73 :: v74 :: v75 :: v76 :: v77 :: v78 :: v79 :: v80 :: v81 :: v82 :: v83 :: (.func (.func 9) #[] #[]) :: v85 :: v86 :: v87 :: v88 :: v89 :: v90 :: v91 :: v92 :: v93 :: v94 :: v95 :: v96 :: v97 :: v98 :: v99 :: v100 :: v101 :: v102 :: v103 :: v104 :: v105 :: v106 :: v107 :: v108 :: v109 :: v110 :: v111 :: v112 :: v113 :: v114 :: v115 :: v116 :: v117 :: v118 :: v119 :: v120 :: v121 :: v122 :: v123 :: v124 :: v125 :: v126 :: v127 :: v128 :: v129 :: v130 :: v131 :: v132 :: v133 :: v134 :: v135 :: v136 :: v137 :: v138 :: v139 :: v140 :: v141 :: v142 :: v143 :: v144 :: v145 :: v146 :: v147 :: v148 :: v149 :: v150 :: [])), defers := D } W')
    (c : Code) (hc : ((Tryd.f3.body.bind rng1).bind rng2) = some c) :
    c.wpIn (Fence.wide.inRound l) 6 Tryd.prog Q { tmps := (List.toArray (v0 :: v1 :: v2 :: (.pointer (some ⟨bw, 0, none⟩)) :: v4 :: v5 :: v6 :: v7 :: v8 :: v9 :: v10 :: v11 :: (.pointer (some ⟨V.heap.size, 0, none⟩)) :: v13 :: v14 :: v15 :: v16 :: v17 :: v18 :: v19 :: v20 :: v21 :: v22 :: v23 :: v24 :: v25 :: v26 :: v27 :: v28 :: v29 :: v30 :: v31 :: v32 :: v33 :: v34 :: v35 :: v36 :: v37 :: v38 :: v39 :: v40 :: v41 :: v42 :: v43 :: v44 :: v45 :: v46 :: v47 :: v48 :: v49 :: v50 :: v51 :: v52 :: v53 :: v54 :: v55 :: v56 :: v57 :: v58 :: v59 :: v60 :: v61 :: v62 :: v63 :: v64 :: v65 :: v66 :: v67 :: v68 :: v69 :: v70 :: v71 :: v72 :: v73 :: v74 :: v75 :: v76 :: v77 :: v78 :: v79 :: v80 :: v81 :: v82 :: v83 :: (.func (.func 9) #[] #[]) :: v85 :: v86 :: v87 :: v88 :: v89 :: v90 :: v91 :: v92 :: v93 :: v94 :: v95 :: v96 :: v97 :: v98 :: v99 :: v100 :: v101 :: v102 :: v103 :: v104 :: v105 :: v106 :: v107 :: v108 :: v109 :: v110 :: v111 :: v112 :: v113 :: v114 :: v115 :: v116 :: v117 :: v118 :: v119 :: v120 :: v121 :: v122 :: v123 :: v124 :: v125 :: v126 :: v127 :: v128 :: v129 :: v130 :: v131 :: v132 :: v133 :: v134 :: v135 :: v136 :: v137 :: v138 :: v139 :: v140 :: v141 :: v142 :: v143 :: v144 :: v145 :: v146 :: v147 :: v148 :: v149 :: v150 :: [])), defers := D } (V.alloc (.cells #[.int .i64 0] 3)) := by
  have hwM : w.heap.size ≤ wM.heap.size := hBs.bel.size
  have hMV : wM.heap.size ≤ V.heap.size := hV.size
  have hb0 : Below V.heap.size V (V.alloc (.cells #[.int .i64 0] 3)) := (Below.refl _ _).alloc (Nat.le_refl _) _
  have hsz : (V.alloc (.cells #[.int .i64 0] 3)).heap.size = V.heap.size + 1 := by simp
  have hI0 : RiI V [] (V.alloc (.cells #[.int .i64 0] 3)) := ⟨Boxed.new V _ _, hb0⟩
  have hl0 : (V.alloc (.cells #[.int .i64 0] 3)).heap[l]? = some (.loop r₀) := (hb0.block l (Array.getElem?_eq_some_iff.1 hl).1).trans hl
  obtain ⟨W0, hW0⟩ : ∃ W0, V.alloc (.cells #[.int .i64 0] 3) = W0 := ⟨_, rfl⟩
  rw [hW0] at hb0 hsz hI0 hl0 ⊢
  have hc2 : some _ = some c := hc
  injection hc2 with hc3
  rw [← hc3]
  clear hc hc3 hW0 hl
  have hT : ∀ W', Below w.heap.size W0 W' → NumT3 W' := fun W' h => hBs.tab.below ((hBs.bel.trans ((hV.mono hwM).trans (hb0.mono (by omega)))).trans h)
  refine range_gn (l₀ := l) (r₀ := r₀) rfl hl0 (by omega) (gf := 9) (lb := #[]) rfl trivial (enters_of Tryd.func9 (by kernel_rfl) rfl)
    ((types_stops 5 (by omega) w.heap.size W0 (by omega) hT).inRound l) KpB.trans (KpB.book (by omega)) (Below.refl _ _) (fun _ => rfl)
    (RiI V) (fun _ _ _ => False) (riI_own (by omega)) (fun _ _ _ _ _ h _ _ => h) hI0
    (fun pre x B a' W => ∃ rb, a' = { tmps := (List.toArray (v0 :: v1 :: v2 :: (.pointer (some ⟨bw, 0, none⟩)) :: v4 :: v5 :: v6 :: v7 :: v8 :: v9 :: v10 :: v11 :: (.pointer (some ⟨V.heap.size, 0, none⟩)) :: (.int .i64 (x.1.1 : Int)) :: (.pointer (some ⟨rb, 0, none⟩)) :: v15 :: v16 :: v17 :: v18 :: v19 :: v20 :: v21 :: v22 :: v23 :: v24 :: v25 :: v26 :: v27 :: v28 :: v29 :: v30 :: v31 :: v32 :: v33 :: v34 :: v35 :: v36 :: v37 :: v38 :: v39 :: v40 :: v41 :: v42 :: v43 :: v44 :: v45 :: v46 :: v47 :: v48 :: v49 :: v50 :: v51 :: v52 :: v53 :: v54 :: v55 :: v56 :: v57 :: v58 :: v59 :: v60 :: v61 :: v62 :: v63 :: v64 :: v65 :: v66 :: v67 :: v68 :: v69 :: v70 :: v71 :: v72 :: v73 :: v74 :: v75 :: v76 :: v77 :: v78 :: v79 :: v80 :: v81 :: v82 :: v83 :: (.func (.func 9) #[] #[]) :: (.int .i64 (x.1.1 : Int)) :: (agT (x)) :: v87 :: v88 :: v89 :: v90 :: v91 :: v92 :: v93 :: v94 :: v95 :: v96 :: v97 :: v98 :: v99 :: v100 :: v101 :: v102 :: v103 :: v104 :: v105 :: v106 :: v107 :: v108 :: v109 :: v110 :: v111 :: v112 :: v113 :: v114 :: v115 :: v116 :: v117 :: v118 :: v119 :: v120 :: v121 :: v122 :: v123 :: v124 :: v125 :: v126 :: v127 :: v128 :: v129 :: v130 :: v131 :: v132 :: v133 :: v134 :: v135 :: v136 :: v137 :: v138 :: v139 :: v140 :: v141 :: v142 :: v143 :: v144 :: v145 :: v146 :: v147 :: v148 :: v149 :: v150 :: [])), defers := [] } ∧ AxJ V pre x B rb W)
    ?hAx ?assign ?body ?done ?stop
  case hAx =>
    rintro pre x B a' _ W W' row ⟨rb, h1, h2⟩ hg hr
    exact ⟨rb, h1, axJ_own (by omega) pre x B rb () W W' row h2 hg hr⟩
  case stop =>
    rintro c pre W _ h
    exact h.elim
  case done =>
    rintro xs W hxs ⟨h1, h2⟩
    have hl : xs.length = 62 := by
      have := congrArg List.length hxs
      rw [List.length_map, upF_len 62 (by omega)] at this
      exact this
    rw [hl] at h1
    exact hn W h2 h1
  case assign =>
    rintro l' pre x Wa W K hIa hbW hIw hG hSp hlen hwl hK
    obtain ⟨aa, ac, hx2⟩ := gt_slice hG
    obtain ⟨i, al⟩ := x
    have hx2' : al = .slice aa (aliL i).length ac := hx2
    subst hx2'
    have hnum := (pre_num hSp).1
    have hVW : V.heap.size < W.heap.size := by have := hbW.size; omega
    have hfin : Hid (∀ rb, rb = W.heap.size → AxJ V pre (i, .slice aa (aliL i).length ac) Wa.heap.size rb (W.alloc (.cells #[.string (rowL i).1, .slice aa (aliL i).length ac, .string (rowL i).2.2, .string (supN i), .int .i64 (SYN.getD i.1 0), .int .i64 (USG.getD i.1 0)] 32))) := by
      rintro rb rfl
      have hb : Below W.heap.size W (W.alloc (.cells #[.string (rowL i).1, .slice aa (aliL i).length ac, .string (rowL i).2.2, .string (supN i), .int .i64 (SYN.getD i.1 0), .int .i64 (USG.getD i.1 0)] 32)) := (Below.refl _ _).alloc (Nat.le_refl _) _
      exact ⟨World.alloc_heap_new W _, gt_below hG hb, hnum, ⟨hIw.1.alloc _, hIw.2.trans (hb.mono (by omega))⟩, hVW⟩
    have hwW' : Hid (w.heap.size ≤ W.heap.size) := by unfold Hid; omega
    have hK' : Hid (∀ a' W', KeepsFrom W0.heap.size W W' → KpB w.heap.size W W' → (∃ rb, a' = { tmps := (List.toArray (v0 :: v1 :: v2 :: (.pointer (some ⟨bw, 0, none⟩)) :: v4 :: v5 :: v6 :: v7 :: v8 :: v9 :: v10 :: v11 :: (.pointer (some ⟨V.heap.size, 0, none⟩)) :: (.int .i64 (i.1 : Int)) :: (.pointer (some ⟨rb, 0, none⟩)) :: v15 :: v16 :: v17 :: v18 :: v19 :: v20 :: v21 :: v22 :: v23 :: v24 :: v25 :: v26 :: v27 :: v28 :: v29 :: v30 :: v31 :: v32 :: v33 :: v34 :: v35 :: v36 :: v37 :: v38 :: v39 :: v40 :: v41 :: v42 :: v43 :: v44 :: v45 :: v46 :: v47 :: v48 :: v49 :: v50 :: v51 :: v52 :: v53 :: v54 :: v55 :: v56 :: v57 :: v58 :: v59 :: v60 :: v61 :: v62 :: v63 :: v64 :: v65 :: v66 :: v67 :: v68 :: v69 :: v70 :: v71 :: v72 :: v73 :: v74 :: v75 :: v76 :: v77 :: v78 :: v79 :: v80 :: v81 :: v82 :: v83 :: (.func (.func 9) #[] #[]) :: (.int .i64 (i.1 : Int)) :: (agT (i, .slice aa (aliL i).length ac)) :: v87 :: v88 :: v89 :: v90 :: v91 :: v92 :: v93 :: v94 :: v95 :: v96 :: v97 :: v98 :: v99 :: v100 :: v101 :: v102 :: v103 :: v104 :: v105 :: v106 :: v107 :: v108 :: v109 :: v110 :: v111 :: v112 :: v113 :: v114 :: v115 :: v116 :: v117 :: v118 :: v119 :: v120 :: v121 :: v122 :: v123 :: v124 :: v125 :: v126 :: v127 :: v128 :: v129 :: v130 :: v131 :: v132 :: v133 :: v134 :: v135 :: v136 :: v137 :: v138 :: v139 :: v140 :: v141 :: v142 :: v143 :: v144 :: v145 :: v146 :: v147 :: v148 :: v149 :: v150 :: [])), defers := [] } ∧ AxJ V pre (i, .slice aa (aliL i).length ac) Wa.heap.size rb W') → K a' W') := hK
    clear hK hbW hIa hIw hG hSp hlen hwl hnum hx2 hn hI0 hT hBs hVW hV hb0 hl0
    dsimp only [encT, agT]
    obtain ⟨n1, hn1⟩ : ∃ x, (rowL i).1 = x := ⟨_, rfl⟩
    obtain ⟨n2, hn2⟩ : ∃ x, (rowL i).2.2 = x := ⟨_, rfl⟩
    obtain ⟨n3, hn3⟩ : ∃ x, (supN i) = x := ⟨_, rfl⟩
    obtain ⟨n4, hn4⟩ : ∃ x, SYN.getD i.1 0 = x := ⟨_, rfl⟩
    obtain ⟨n5, hn5⟩ : ∃ x, USG.getD i.1 0 = x := ⟨_, rfl⟩
    obtain ⟨n6, hn6⟩ : ∃ x, (aliL i).length = x := ⟨_, rfl⟩
    dsimp only [agT] at hK'
    simp only [hn1, hn2, hn3, hn4, hn5, hn6] at hK' hfin ⊢
    gi_wp2
    exact hK'.out _ _ ((KeepsOthers.alloc _ _).from _) (KpB.below hwW'.out ((Below.refl _ _).alloc (Nat.le_refl _) _)) ⟨_, rfl, hfin.out _ rfl⟩
  case body =>
    rintro l' pre x B a' U hl' hlr ⟨rb, rfl, hrb, hG, hnum, ⟨hk, hbU⟩, hVrb⟩ hlen
    obtain ⟨aa, ac, hx2⟩ := gt_slice hG
    obtain ⟨i, al⟩ := x
    have hx2' : al = .slice aa (aliL i).length ac := hx2
    subst hx2'
    obtain ⟨p, hp⟩ : ∃ p, pre.length = p := ⟨_, rfl⟩
    rw [hp] at hnum hlen hk
    have hi : i = ⟨p, hlen⟩ := Fin.ext hnum
    subst hi
    have hUM : Below wM.heap.size wM U := hV.trans (hbU.mono hMV)
    obtain ⟨bl, hwc, hwr⟩ := wnt_at (hBs.wnt.below hUM) hlen
    obtain ⟨b1, b2, b3, hb'⟩ := rowIs_slice (x := (⟨p, hlen⟩, bl)) hwr
    have hb'' : bl = .slice b1 b2 b3 := hb'
    subst hb''
    have hss := ss_of hk.cell (boxed_bel hBs.want hUM hBs.want.lt).cell hrb hwc
    have hsa := same_al hG hwr
    have hmain : Hid (Below V.heap.size V U ∧ Boxed U V.heap.size 3 (.int .i64 (p : Int)) ∧ pre.length = p ∧ W0.heap.size = V.heap.size + 1 ∧ w.heap.size ≤ V.heap.size) := ⟨hbU, hk, hp, hsz, by omega⟩
    have hlen' : Hid (p < 62) := hlen
    clear hx2 hb' hwc hwr hG hrb hnum hbU hk hUM hn hI0 hT hBs hV hb0 hl0 hl' hlr hp hsz
    dsimp only
    gi_wp2
    refine reg28 U V.heap.size bw rb b p wc _ _ _ _ _ aa b1 _ ac b2 b3 l' _ [] _ hlen'.out hss hsa ?_ _ (by kernel_rfl)
    intro o87 o88 o89 o90 o91 o92 o93 o94 o95 o96 o97 o98 o99 o100 o101 o102 o103 W1 hb1
    have c1 : W1.cell? ⟨V.heap.size, 0, none⟩ = some (.int .i64 (p : Int)) := (boxed_bel hmain.out.2.1 hb1 hmain.out.2.1.lt).cell
    have f1 : W1.frozen? ⟨V.heap.size, 0, none⟩ = false := (boxed_bel hmain.out.2.1 hb1 hmain.out.2.1.lt).frozen
    have hb1' : Hid (Below U.heap.size U W1) := hb1
    have p1 : (p : Int) < 62 := by have := hlen'.out; omega
    have p0 : (0 : Int) ≤ (p : Int) := Int.natCast_nonneg _
    clear hss hsa hb1
    gi_wp2
    obtain ⟨g1, g2, g3, g4, g5⟩ := hmain.out
    have gb1 : Boxed W1 V.heap.size 3 (.int .i64 (p : Int)) := (hb1'.out.block _ g2.lt).trans g2
    have hT1 : ChT V.heap.size U (W1.setCell ⟨V.heap.size, 0, none⟩ (.int .i64 ((p : Int) + 1))) := (ChT.of_below hb1'.out).trans (ChT.box gb1 rfl (Nat.le_refl _))
    have hUV := g1.size
    refine ⟨hT1.keeps, hT1.kp hUV g5, ?_, ?_⟩
    · rw [List.length_append, g3]
      have := gb1.set (.int .i64 ((p : Int) + 1))
      simpa using this
    · exact g1.trans (hT1.below hUV)
end Ty
end Go.Proofs.YtndbbfbihheagaaDoor
