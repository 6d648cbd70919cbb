import Derived.Test.YtndbbfbihheagaaDoorTyM
namespace Go.Proofs.YtndbbfbihheagaaDoor
namespace Ty
open Go.RowKit Go.Shelf
open Ak (KE EK kb OwnB)
set_option linter.unusedVariables false
set_option maxRecDepth 1000000
attribute [local go_sem] Oper.semAt_some

theorem wrap_small (t : Nat) (h : t ≤ 100000) : IntKind.i64.wrap (t : Int) = (t : Int) := by rw [IntKind.wrap_i64]; omega
set_option maxHeartbeats 4000000 in
theorem reg43 (W : World) (bb gb bn bc lb lo n lc i k t : Nat) (M : ByteArray) (m : Nat) (D : List Deferred) (Q : Exit → Act → World → Prop) {v0 v1 v2 v3 v4 v6 v7 v8 v9 v10 v11 v12 v13 v14 v17 v18 v19 v20 v21 v22 v23 v24 v25 v26 v27 v28 v29 v30 v31 v32 v33 v34 v35 v36 v37 v38 v39 v40 v41 v42 v43 v44 v45 v46 v47 v48 v49 v50 v51 v52 v53 v54 v55 v56 v57 v58 v59 v60 v61 v62 v63 v64 v65 v66 v67 v68 v69 v70 v71 v72 v73 v74 v75 v76 v77 v78 v79 v80 v81 v82 v83 v84 v85 v86 v87 v88 v89 v90 v91 v92 v93 v94 v95 v96 v97 v98 v99 v100 v101 v102 v103 v104 v105 v106 v107 v108 v109 v110 v111 v112 v113 v114 v115 v116 v117 v118 v119 v120 v121 v122 v123 v124 v125 v126 v127 v128 v129 v130 v131 v132 v133 v134 v135 v136 v137 v138 v139 v140 v141 v142 v143 v144 v145 v146 v147 v148 v149 v150 : Value}
    (hi : i < bn) (hbn : bn ≤ 4096) (hk : k < n) (hn : n ≤ 8388608) (ht : i / 2 = t) (h1 : W.cell? ⟨bb, 0, none⟩ = some (.slice (some ⟨gb, 0, none⟩) bn bc)) (h2 : W.cell? ⟨gb, i, none⟩ = some (.slice (some ⟨lb, lo, none⟩) n lc)) (h3 : W.cell? ⟨lb, lo + k, none⟩ = some (.string M)) (hM : S (mk t) = M)
    (hQ : ∀ (o140 o141 o142 o143 o144 o145 o146 o147 o148 o149 : Value) (W' : World), Below W.heap.size W W' → Q .normal { tmps := (List.toArray (v0 :: v1 :: v2 :: v3 :: v4 :: (.pointer (some ⟨bb, 0, none⟩)) :: v6 :: v7 :: v8 :: v9 :: v10 :: v11 :: v12 :: v13 :: v14 :: (.int .i64 (i : Int)) :: (.int .i64 (k : Int)) :: v17 :: v18 :: v19 :: v20 :: v21 :: v22 :: v23 :: v24 :: v25 :: v26 :: v27 :: v28 :: v29 :: v30 :: v31 :: v32 :: v33 :: v34 :: v35 :: v36 :: v37 :: v38 :: v39 :: v40 :: v41 :: v42 :: v43 :: v44 :: v45 :: v46 :: v47 :: v48 :: v49 :: v50 :: v51 :: v52 :: v53 :: v54 :: v55 :: v56 :: v57 :: v58 :: v59 :: v60 :: v61 :: v62 :: v63 :: v64 :: v65 :: v66 :: v67 :: v68 :: v69 :: v70 :: v71 :: v72 :: v73 :: v74 :: v75 :: v76 :: v77 :: v78 :: v79 :: v80 :: v81 :: v82 :: v83 :: v84 :: v85 :: v86 :: v87 :: v88 :: v89 :: v90 :: v91 :: v92 :: v93 :: v94 :: v95 :: v96 :: v97 :: v98 :: v99 :: v100 :: v101 :: v102 :: v103 :: v104 :: v105 :: v106 :: v107 :: v108 :: v109 :: v110 :: v111 :: v112 :: v113 :: v114 :: v115 :: v116 :: v117 :: v118 :: v119 :: v120 :: v121 :: v122 :: v123 :: v124 :: v125 :: v126 :: v127 :: v128 :: v129 :: v130 :: v131 :: v132 :: v133 :: v134 :: v135 :: v136 :: v137 :: v138 :: v139 :: (o140) :: (o141) :: (o142) :: (o143) :: (o144) :: (o145) :: (o146) :: (o147) :: (o148) :: (o149) :: (.bool false) :: [])), defers := D } W')
    (c : Code) (hc : (Tryd.f3.body.bind (regOf 43)) = some c) :
    c.wpIn Fence.wide m Tryd.prog Q { tmps := (List.toArray (v0 :: v1 :: v2 :: v3 :: v4 :: (.pointer (some ⟨bb, 0, none⟩)) :: v6 :: v7 :: v8 :: v9 :: v10 :: v11 :: v12 :: v13 :: v14 :: (.int .i64 (i : Int)) :: (.int .i64 (k : Int)) :: v17 :: v18 :: v19 :: v20 :: v21 :: v22 :: v23 :: v24 :: v25 :: v26 :: v27 :: v28 :: v29 :: v30 :: v31 :: v32 :: v33 :: v34 :: v35 :: v36 :: v37 :: v38 :: v39 :: v40 :: v41 :: v42 :: v43 :: v44 :: v45 :: v46 :: v47 :: v48 :: v49 :: v50 :: v51 :: v52 :: v53 :: v54 :: v55 :: v56 :: v57 :: v58 :: v59 :: v60 :: v61 :: v62 :: v63 :: v64 :: v65 :: v66 :: v67 :: v68 :: v69 :: v70 :: v71 :: v72 :: v73 :: v74 :: v75 :: v76 :: v77 :: v78 :: v79 :: v80 :: v81 :: v82 :: v83 :: v84 :: v85 :: v86 :: v87 :: v88 :: v89 :: v90 :: v91 :: v92 :: v93 :: v94 :: v95 :: v96 :: v97 :: v98 :: v99 :: v100 :: v101 :: v102 :: v103 :: v104 :: v105 :: v106 :: v107 :: v108 :: v109 :: v110 :: v111 :: v112 :: v113 :: v114 :: v115 :: v116 :: v117 :: v118 :: v119 :: v120 :: v121 :: v122 :: v123 :: v124 :: v125 :: v126 :: v127 :: v128 :: v129 :: v130 :: v131 :: v132 :: v133 :: v134 :: v135 :: v136 :: v137 :: v138 :: v139 :: v140 :: v141 :: v142 :: v143 :: v144 :: v145 :: v146 :: v147 :: v148 :: v149 :: v150 :: [])), defers := D } W := by
  have hc2 : some _ = some c := hc
  injection hc2 with hc3
  rw [← hc3]
  clear hc hc3
  have i0 : (0 : Int) ≤ (i : Int) := Int.natCast_nonneg _
  have k0 : (0 : Int) ≤ (k : Int) := Int.natCast_nonneg _
  have i1 : (i : Int) < (bn : Int) := Int.ofNat_lt.2 hi
  have k1 : (k : Int) < (n : Int) := Int.ofNat_lt.2 hk
  have htd : (i : Int).tdiv 2 = (t : Int) := by rw [Int.tdiv_eq_ediv_of_nonneg i0]; omega
  have htw : wrap64 (t : Int) = (t : Int) := by unfold wrap64; omega
  have htw2 : IntKind.i64.wrap (t : Int) = (t : Int) := wrap_small t (by omega)
  have hQ' : Hid (_) := hQ
  have hS0 : W.drew.cell? ⟨bb, 0, none⟩ = some (.slice (some ⟨gb, 0, none⟩) bn bc) ∧ W.drew.cell? ⟨gb, i, none⟩ = some (.slice (some ⟨lb, lo, none⟩) n lc) ∧ W.drew.cell? ⟨lb, lo + k, none⟩ = some (.string M) := ⟨h1, h2, h3⟩
  have hMk : Calls Tryd.prog 7 #[.int .i64 (t : Int)] W.drew fun e w' => e = .returned (.string M) ∧ Below W.drew.heap.size W.drew w' := by
    have := mark_any t (by omega) W.drew
    rw [hM] at this
    exact this
  clear h1 h2 h3 hQ hi hk ht hM
  refine regionW (fun _ => true) (fun W' => W'.cell? ⟨bb, 0, none⟩ = some (.slice (some ⟨gb, 0, none⟩) bn bc) ∧ W'.cell? ⟨gb, i, none⟩ = some (.slice (some ⟨lb, lo, none⟩) n lc) ∧ W'.cell? ⟨lb, lo + k, none⟩ = some (.string M)) (by kernel_rfl) ?_
  refine RgN.n_take 0 ?va1 (by simp only [List.getElem?_toArray, List.getElem?_cons_zero]; exact rfl) (by kernel_rfl) (by kernel_rfl) (by kernel_rfl) (RgN.safe_all _ _ _) (by rfl) hS0 ?ya1 ?ra1
  case ya1 =>
    intro w' hS
    obtain ⟨h0, h1, h2⟩ := hS
    go_simp
    try with_reducible rfl
  case ra1 =>
  simp only [Act.put, List.setIfInBounds_toArray, List.set_cons_zero, List.set_cons_succ]
  refine RgN.n_take 1 ?va2 (by simp only [List.getElem?_toArray, List.getElem?_cons_zero, List.getElem?_cons_succ]; exact rfl) (by kernel_rfl) (by kernel_rfl) (by kernel_rfl) (RgN.safe_all _ _ _) (by rfl) hS0 ?ya2 ?ra2
  case ya2 =>
    intro w' hS
    obtain ⟨h0, h1, h2⟩ := hS
    go_simp
    try with_reducible rfl
  case ra2 =>
  simp only [Act.put, List.setIfInBounds_toArray, List.set_cons_zero, List.set_cons_succ]
  refine RgN.n_take 2 ?va3 (by simp only [List.getElem?_toArray, List.getElem?_cons_zero, List.getElem?_cons_succ]; exact rfl) (by kernel_rfl) (by kernel_rfl) (by kernel_rfl) (RgN.safe_all _ _ _) (by rfl) hS0 ?ya3 ?ra3
  case ya3 =>
    intro w' hS
    obtain ⟨h0, h1, h2⟩ := hS
    go_simp
    try with_reducible rfl
  case ra3 =>
  simp only [Act.put, List.setIfInBounds_toArray, List.set_cons_zero, List.set_cons_succ]
  refine RgN.n_take 3 ?va4 (by simp only [List.getElem?_toArray, List.getElem?_cons_zero, List.getElem?_cons_succ]; exact rfl) (by kernel_rfl) (by kernel_rfl) (by kernel_rfl) (RgN.safe_all _ _ _) (by rfl) hS0 ?ya4 ?ra4
  case ya4 =>
    intro w' hS
    obtain ⟨h0, h1, h2⟩ := hS
    go_simp
    try with_reducible rfl
  case ra4 =>
  simp only [Act.put, List.setIfInBounds_toArray, List.set_cons_zero, List.set_cons_succ]
  refine RgN.n_take 4 ?va5 (by simp only [List.getElem?_toArray, List.getElem?_cons_zero, List.getElem?_cons_succ]; exact rfl) (by kernel_rfl) (by kernel_rfl) (by kernel_rfl) (RgN.safe_all _ _ _) (by rfl) hS0 ?ya5 ?ra5
  case ya5 =>
    intro w' hS
    obtain ⟨h0, h1, h2⟩ := hS
    go_simp
    try with_reducible rfl
  case ra5 =>
  simp only [Act.put, List.setIfInBounds_toArray, List.set_cons_zero, List.set_cons_succ]
  refine RgN.n_take 5 ?va6 (by simp only [List.getElem?_toArray, List.getElem?_cons_zero, List.getElem?_cons_succ]; exact rfl) (by kernel_rfl) (by kernel_rfl) (by kernel_rfl) (RgN.safe_all _ _ _) (by rfl) hS0 ?ya6 ?ra6
  case ya6 =>
    intro w' hS
    obtain ⟨h0, h1, h2⟩ := hS
    go_simp
    try with_reducible rfl
  case ra6 =>
  simp only [Act.put, List.setIfInBounds_toArray, List.set_cons_zero, List.set_cons_succ]
  refine RgN.n_take 6 ?va7 (by simp only [List.getElem?_toArray, List.getElem?_cons_zero, List.getElem?_cons_succ]; exact rfl) (by kernel_rfl) (by kernel_rfl) (by kernel_rfl) (RgN.safe_all _ _ _) (by rfl) hS0 ?ya7 ?ra7
  case ya7 =>
    intro w' hS
    obtain ⟨h0, h1, h2⟩ := hS
    go_simp
    try with_reducible rfl
  case ra7 =>
  simp only [Act.put, List.setIfInBounds_toArray, List.set_cons_zero, List.set_cons_succ]
  refine RgN.n_take 7 ?va8 (by simp only [List.getElem?_toArray, List.getElem?_cons_zero, List.getElem?_cons_succ]; exact rfl) (by kernel_rfl) (by kernel_rfl) (by kernel_rfl) (RgN.safe_all _ _ _) (by rfl) hS0 ?ya8 ?ra8
  case ya8 =>
    intro w' hS
    obtain ⟨h0, h1, h2⟩ := hS
    go_simp
    try with_reducible rfl
  case ra8 =>
  simp only [Act.put, List.setIfInBounds_toArray, List.set_cons_zero, List.set_cons_succ]
  refine RgN.n_take 8 ?va9 (by simp only [List.getElem?_toArray, List.getElem?_cons_zero, List.getElem?_cons_succ]; exact rfl) (by kernel_rfl) (by kernel_rfl) (by kernel_rfl) (RgN.safe_all _ _ _) (by rfl) hS0 ?ya9 ?ra9
  case ya9 =>
    intro w' hS
    obtain ⟨h0, h1, h2⟩ := hS
    go_simp
    try with_reducible rfl
  case ra9 =>
  simp only [Act.put, List.setIfInBounds_toArray, List.set_cons_zero, List.set_cons_succ]
  refine RgN.n_one 9 (by kernel_rfl) (by simp only [List.getElem?_toArray, List.getElem?_cons_zero, List.getElem?_cons_succ]; exact rfl) (fun K hK => ?_)
  go_simp
  refine hMk.mono ?_
  rintro e W1 ⟨rfl, hb⟩
  have kk : ∀ {a : Addr} {v : Value}, W.drew.cell? a = some v → W1.cell? a = some v := fun h => by rw [hb.cell (World.block_lt_of_cell? W.drew _ h)]; exact h
  have hS1 := And.intro (kk hS0.1) (And.intro (kk hS0.2.1) (kk hS0.2.2))
  refine hK.out _ _ (fun _ => hS1) ?_
  clear hK K
  try simp only [Act.put, List.setIfInBounds_toArray, List.set_cons_zero, List.set_cons_succ]
  refine RgN.n_take 10 ?va10 (by simp only [List.getElem?_toArray, List.getElem?_cons_zero, List.getElem?_cons_succ]; exact rfl) (by kernel_rfl) (by kernel_rfl) (by kernel_rfl) (RgN.safe_all _ _ _) (by rfl) hS1 ?ya10 ?ra10
  case ya10 =>
    intro w' hS
    obtain ⟨h0, h1, h2⟩ := hS
    go_simp
    try with_reducible rfl
  case ra10 =>
  simp only [Act.put, List.setIfInBounds_toArray, List.set_cons_zero, List.set_cons_succ]
  refine RgN.n_done (by kernel_rfl) ?_ _
  exact hQ'.out _ _ _ _ _ _ _ _ _ _ _ ((Below.refl W.heap.size W).drew.trans hb)
end Ty
end Go.Proofs.YtndbbfbihheagaaDoor
