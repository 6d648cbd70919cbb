import Derived.Test.YtdbhcemmaahemaaPkC
import Derived.Test.YtdbhcemmaahemaaRgN
namespace Go.Proofs.Ytdbhcemmaahemaa
namespace Pk
open Go.RowKit Go.Sort Go.Lib
open PgMath (Inc setOf cnt)
open PgHpM (Hd)
set_option linter.unusedVariables false
set_option maxRecDepth 1000000

/-- The region of a number in a code. -/
def regOf (n : Nat) : Code → Option Code
  | .region i ops b => if i = n then some (.region i ops b) else none
  | .seq a b => match regOf n a with
    | some c => some c
    | none => regOf n b
  | .cond _ a b => match regOf n a with
    | some c => some c
    | none => regOf n b
  | .block _ a => regOf n a
  | .loop a => regOf n a
  | .scope a => regOf n a
  | _ => none
theorem regionP {P : Program} {ops : Array Oper} {Q : Exit → Act → World → Prop} (N : Nat → Bool) (S : World → Prop) {id : Nat} {a : Act} {w : World} (hm : P.follows .mixedOrders = true)
    (h : RgN.wpAnyN P .any ops (RgN.Only Q) N S ops.size (Array.replicate ops.size false) a w.drew) : (Code.region id ops true).wp P Q a w :=
  Code.wp_mono RgN.only_post (wp_region_any hm (RgN.any_of_n _ _ _ _ h))
theorem kept {W W' : World} (hb : Below W.heap.size W W') {a : Addr} {v : Value} (h : W.cell? a = some v) : W'.cell? a = some v := by rw [hb.cell (World.block_lt_of_cell? W _ h)]; exact h
set_option maxHeartbeats 4000000 in
theorem reg17 (W : World) (sb so n sc i j : Nat) (N1 : Int) (xa ya : Option Addr) (xn xc yn yc : Nat) (x y : Value) (hx : x = .slice xa xn xc) (hy : y = .slice ya yn yc) (Q : Exit → Act → World → Prop) {v1 v2 v3 v4 v5 v7 v8 v9 v10 v11 v12 v13 v14 v15 v16 v17 v18 v19 v20 v21 v22 v23 v24 v25 v26 v27 v28 v29 v30 v31 v32 v33 v34 v35 v36 v37 v38 v39 v40 v41 v42 v43 v44 v45 v46 v47 v48 v49 v50 v51 v52 v53 v54 v55 v56 v57 v58 v59 v60 v61 v62 v63 v64 v65 v66 v67 v68 v69 v70 v71 v72 v73 v74 v75 v76 v77 v78 v79 v80 v81 v82 v83 v84 v85 v86 v87 v88 v89 v90 v91 v92 v93 v94 v95 v96 v97 v98 v99 v100 v101 v102 v103 v104 v105 v106 v107 v108 v109 v110 v111 v112 v113 v114 v115 v116 v117 v118 v119 v120 v121 v122 v123 v124 v125 v126 v127 v128 v129 v130 v131 v132 v133 v134 v135 v136 v137 v138 v139 v140 v141 v142 v143 v144 v145 v146 v147 v148 v149 v150 v151 v152 v153 v154 v155 v156 v157 v158 v159 v160 v161 v162 v163 v164 v165 v166 v167 v168 v169 v170 v171 v172 v173 v174 v175 v176 v177 v178 v179 v180 v181 v182 v183 v184 v185 v186 v187 v188 v189 v190 v191 v192 v193 v194 v195 v196 v197 v198 v199 v200 v201 v202 v203 v204 v205 v206 v207 v208 v209 v210 v211 v212 v213 v214 v215 v216 v217 v218 v219 v220 v221 v222 v223 v224 v225 v226 v227 v228 v229 v230 v231 v232 v233 v234 v235 v236 v237 v238 v239 v240 v241 v242 v243 v244 v245 v246 v247 v248 v249 v250 v251 v252 v253 v254 v255 v256 v257 v258 v259 v260 v261 v262 v263 v264 v265 v266 v267 v268 : Value}
    (hi : i < n) (hj : j < n) (e1 : IntKind.i64.wrap ((n : Int) - 1) = N1) (e2 : IntKind.i64.wrap (N1 - (i : Int)) = (j : Int)) (f1 : wrap64 ((n : Int) - 1) = N1) (f2 : wrap64 (N1 - (i : Int)) = (j : Int)) (h0 : W.cell? ⟨sb, so + i, none⟩ = some x) (h1 : W.cell? ⟨sb, so + j, none⟩ = some y)
    (hQ : ∀ (o82 o83 o84 o85 o86 o87 o88 o89 o90 o91 o92 o93 o94 : Value), Q .normal { tmps := (List.toArray ((.slice (some ⟨sb, so, none⟩) n sc) :: v1 :: v2 :: v3 :: v4 :: v5 :: (.int .i64 (i : Int)) :: v7 :: v8 :: v9 :: v10 :: v11 :: v12 :: (.slice (some ⟨W.heap.size, 0, none⟩) 2 2) :: v14 :: v15 :: v16 :: v17 :: v18 :: v19 :: v20 :: v21 :: v22 :: v23 :: v24 :: v25 :: v26 :: v27 :: v28 :: v29 :: v30 :: v31 :: v32 :: v33 :: v34 :: v35 :: v36 :: v37 :: v38 :: v39 :: v40 :: v41 :: v42 :: v43 :: v44 :: v45 :: v46 :: v47 :: v48 :: v49 :: v50 :: v51 :: v52 :: v53 :: v54 :: v55 :: v56 :: v57 :: v58 :: v59 :: v60 :: v61 :: v62 :: v63 :: v64 :: v65 :: v66 :: v67 :: v68 :: v69 :: v70 :: v71 :: v72 :: v73 :: v74 :: v75 :: v76 :: v77 :: v78 :: v79 :: v80 :: v81 :: (o82) :: (o83) :: (o84) :: (o85) :: (o86) :: (o87) :: (o88) :: (o89) :: (o90) :: (o91) :: (o92) :: (o93) :: (o94) :: v95 :: v96 :: v97 :: v98 :: v99 :: v100 :: v101 :: v102 :: v103 :: v104 :: v105 :: v106 :: v107 :: v108 :: v109 :: v110 :: v111 :: v112 :: v113 :: v114 :: v115 :: v116 :: v117 :: v118 :: v119 :: v120 :: v121 :: v122 :: v123 :: v124 :: v125 :: v126 :: v127 :: v128 :: v129 :: v130 :: v131 :: v132 :: v133 :: v134 :: v135 :: v136 :: v137 :: v138 :: v139 :: v140 :: v141 :: v142 :: v143 :: v144 :: v145 :: v146 :: v147 :: v148 :: v149 :: v150 :: v151 :: v152 :: v153 :: v154 :: v155 :: v156 :: v157 :: v158 :: v159 :: v160 :: v161 :: v162 :: v163 :: v164 :: v165 :: v166 :: v167 :: v168 :: v169 :: v170 :: v171 :: v172 :: v173 :: v174 :: v175 :: v176 :: v177 :: v178 :: v179 :: v180 :: v181 :: v182 :: v183 :: v184 :: v185 :: v186 :: v187 :: v188 :: v189 :: v190 :: v191 :: v192 :: v193 :: v194 :: v195 :: v196 :: v197 :: v198 :: v199 :: v200 :: v201 :: v202 :: v203 :: v204 :: v205 :: v206 :: v207 :: v208 :: v209 :: v210 :: v211 :: v212 :: v213 :: v214 :: v215 :: v216 :: v217 :: v218 :: v219 :: v220 :: v221 :: v222 :: v223 :: v224 :: v225 :: v226 :: v227 :: v228 :: v229 :: v230 :: v231 :: v232 :: v233 :: v234 :: v235 :: v236 :: v237 :: v238 :: v239 :: v240 :: v241 :: v242 :: v243 :: v244 :: v245 :: v246 :: v247 :: v248 :: v249 :: v250 :: v251 :: v252 :: v253 :: v254 :: v255 :: v256 :: v257 :: v258 :: v259 :: v260 :: v261 :: v262 :: v263 :: v264 :: v265 :: v266 :: v267 :: v268 :: [])), defers := [] } (W.drew.alloc (.cells #[x, y] 35)))
    (c : Code) (hc : (Try.f4.body.bind (regOf 17)) = some c) :
    c.wp Try.prog Q { tmps := (List.toArray ((.slice (some ⟨sb, so, none⟩) n sc) :: v1 :: v2 :: v3 :: v4 :: v5 :: (.int .i64 (i : Int)) :: v7 :: v8 :: v9 :: v10 :: v11 :: v12 :: v13 :: v14 :: v15 :: v16 :: v17 :: v18 :: v19 :: v20 :: v21 :: v22 :: v23 :: v24 :: v25 :: v26 :: v27 :: v28 :: v29 :: v30 :: v31 :: v32 :: v33 :: v34 :: v35 :: v36 :: v37 :: v38 :: v39 :: v40 :: v41 :: v42 :: v43 :: v44 :: v45 :: v46 :: v47 :: v48 :: v49 :: v50 :: v51 :: v52 :: v53 :: v54 :: v55 :: v56 :: v57 :: v58 :: v59 :: v60 :: v61 :: v62 :: v63 :: v64 :: v65 :: v66 :: v67 :: v68 :: v69 :: v70 :: v71 :: v72 :: v73 :: v74 :: v75 :: v76 :: v77 :: v78 :: v79 :: v80 :: v81 :: v82 :: v83 :: v84 :: v85 :: v86 :: v87 :: v88 :: v89 :: v90 :: v91 :: v92 :: v93 :: v94 :: v95 :: v96 :: v97 :: v98 :: v99 :: v100 :: v101 :: v102 :: v103 :: v104 :: v105 :: v106 :: v107 :: v108 :: v109 :: v110 :: v111 :: v112 :: v113 :: v114 :: v115 :: v116 :: v117 :: v118 :: v119 :: v120 :: v121 :: v122 :: v123 :: v124 :: v125 :: v126 :: v127 :: v128 :: v129 :: v130 :: v131 :: v132 :: v133 :: v134 :: v135 :: v136 :: v137 :: v138 :: v139 :: v140 :: v141 :: v142 :: v143 :: v144 :: v145 :: v146 :: v147 :: v148 :: v149 :: v150 :: v151 :: v152 :: v153 :: v154 :: v155 :: v156 :: v157 :: v158 :: v159 :: v160 :: v161 :: v162 :: v163 :: v164 :: v165 :: v166 :: v167 :: v168 :: v169 :: v170 :: v171 :: v172 :: v173 :: v174 :: v175 :: v176 :: v177 :: v178 :: v179 :: v180 :: v181 :: v182 :: v183 :: v184 :: v185 :: v186 :: v187 :: v188 :: v189 :: v190 :: v191 :: v192 :: v193 :: v194 :: v195 :: v196 :: v197 :: v198 :: v199 :: v200 :: v201 :: v202 :: v203 :: v204 :: v205 :: v206 :: v207 :: v208 :: v209 :: v210 :: v211 :: v212 :: v213 :: v214 :: v215 :: v216 :: v217 :: v218 :: v219 :: v220 :: v221 :: v222 :: v223 :: v224 :: v225 :: v226 :: v227 :: v228 :: v229 :: v230 :: v231 :: v232 :: v233 :: v234 :: v235 :: v236 :: v237 :: v238 :: v239 :: v240 :: v241 :: v242 :: v243 :: v244 :: v245 :: v246 :: v247 :: v248 :: v249 :: v250 :: v251 :: v252 :: v253 :: v254 :: v255 :: v256 :: v257 :: v258 :: v259 :: v260 :: v261 :: v262 :: v263 :: v264 :: v265 :: v266 :: v267 :: v268 :: [])), defers := [] } W := by
  have hc2 : some _ = some c := hc
  injection hc2 with hc3
  rw [← hc3]
  clear hc hc3
  subst hx hy
  have i0 : (0 : Int) ≤ (i : Int) := Int.natCast_nonneg _
  have j0 : (0 : Int) ≤ (j : Int) := Int.natCast_nonneg _
  have i1 : (i : Int) < (n : Int) := Int.ofNat_lt.2 hi
  have j1 : (j : Int) < (n : Int) := Int.ofNat_lt.2 hj
  have hQ' : Hid (_) := hQ
  have hS0 : W.drew.cell? ⟨sb, so + i, none⟩ = some (.slice xa xn xc) ∧ W.drew.cell? ⟨sb, so + j, none⟩ = some (.slice ya yn yc) := ⟨h0, h1⟩
  clear h0 h1 hQ hi hj
  refine regionP (fun _ => true) (fun W' => W'.cell? ⟨sb, so + i, none⟩ = some (.slice xa xn xc) ∧ W'.cell? ⟨sb, so + j, none⟩ = some (.slice ya yn yc)) (by kernel_rfl) ?_
  refine RgN.n_take 0 ?va1 (by simp only [List.getElem?_toArray, List.getElem?_cons_zero]; exact rfl) (by kernel_rfl) (by kernel_rfl) (by kernel_rfl) (RgN.safe_all _ _ _) (by rfl) hS0 ?ya1 ?ra1
  case ya1 =>
    intro w' hS
    obtain ⟨h0, h1⟩ := hS
    go_simp
    try with_reducible rfl
  case ra1 =>
  simp only [Act.put, List.setIfInBounds_toArray, List.set_cons_zero, List.set_cons_succ]
  refine RgN.n_take 1 ?va2 (by simp only [List.getElem?_toArray, List.getElem?_cons_zero, List.getElem?_cons_succ]; exact rfl) (by kernel_rfl) (by kernel_rfl) (by kernel_rfl) (RgN.safe_all _ _ _) (by rfl) hS0 ?ya2 ?ra2
  case ya2 =>
    intro w' hS
    obtain ⟨h0, h1⟩ := hS
    go_simp
    try with_reducible rfl
  case ra2 =>
  simp only [Act.put, List.setIfInBounds_toArray, List.set_cons_zero, List.set_cons_succ]
  refine RgN.n_take 2 ?va3 (by simp only [List.getElem?_toArray, List.getElem?_cons_zero, List.getElem?_cons_succ]; exact rfl) (by kernel_rfl) (by kernel_rfl) (by kernel_rfl) (RgN.safe_all _ _ _) (by rfl) hS0 ?ya3 ?ra3
  case ya3 =>
    intro w' hS
    obtain ⟨h0, h1⟩ := hS
    go_simp
    try with_reducible rfl
  case ra3 =>
  simp only [Act.put, List.setIfInBounds_toArray, List.set_cons_zero, List.set_cons_succ]
  refine RgN.n_take 3 ?va4 (by simp only [List.getElem?_toArray, List.getElem?_cons_zero, List.getElem?_cons_succ]; exact rfl) (by kernel_rfl) (by kernel_rfl) (by kernel_rfl) (RgN.safe_all _ _ _) (by rfl) hS0 ?ya4 ?ra4
  case ya4 =>
    intro w' hS
    obtain ⟨h0, h1⟩ := hS
    go_simp
    try with_reducible rfl
  case ra4 =>
  simp only [Act.put, List.setIfInBounds_toArray, List.set_cons_zero, List.set_cons_succ]
  refine RgN.n_take 4 ?va5 (by simp only [List.getElem?_toArray, List.getElem?_cons_zero, List.getElem?_cons_succ]; exact rfl) (by kernel_rfl) (by kernel_rfl) (by kernel_rfl) (RgN.safe_all _ _ _) (by rfl) hS0 ?ya5 ?ra5
  case ya5 =>
    intro w' hS
    obtain ⟨h0, h1⟩ := hS
    go_simp
    try with_reducible rfl
  case ra5 =>
  simp only [Act.put, List.setIfInBounds_toArray, List.set_cons_zero, List.set_cons_succ]
  refine RgN.n_take 5 ?va6 (by simp only [List.getElem?_toArray, List.getElem?_cons_zero, List.getElem?_cons_succ]; exact rfl) (by kernel_rfl) (by kernel_rfl) (by kernel_rfl) (RgN.safe_all _ _ _) (by rfl) hS0 ?ya6 ?ra6
  case ya6 =>
    intro w' hS
    obtain ⟨h0, h1⟩ := hS
    go_simp
    try with_reducible rfl
  case ra6 =>
  simp only [Act.put, List.setIfInBounds_toArray, List.set_cons_zero, List.set_cons_succ]
  refine RgN.n_take 6 ?va7 (by simp only [List.getElem?_toArray, List.getElem?_cons_zero, List.getElem?_cons_succ]; exact rfl) (by kernel_rfl) (by kernel_rfl) (by kernel_rfl) (RgN.safe_all _ _ _) (by rfl) hS0 ?ya7 ?ra7
  case ya7 =>
    intro w' hS
    obtain ⟨h0, h1⟩ := hS
    go_simp
    try with_reducible rfl
  case ra7 =>
  simp only [Act.put, List.setIfInBounds_toArray, List.set_cons_zero, List.set_cons_succ]
  refine RgN.n_take 7 ?va8 (by simp only [List.getElem?_toArray, List.getElem?_cons_zero, List.getElem?_cons_succ]; exact rfl) (by kernel_rfl) (by kernel_rfl) (by kernel_rfl) (RgN.safe_all _ _ _) (by rfl) hS0 ?ya8 ?ra8
  case ya8 =>
    intro w' hS
    obtain ⟨h0, h1⟩ := hS
    go_simp
    try with_reducible rfl
  case ra8 =>
  simp only [Act.put, List.setIfInBounds_toArray, List.set_cons_zero, List.set_cons_succ]
  refine RgN.n_take 8 ?va9 (by simp only [List.getElem?_toArray, List.getElem?_cons_zero, List.getElem?_cons_succ]; exact rfl) (by kernel_rfl) (by kernel_rfl) (by kernel_rfl) (RgN.safe_all _ _ _) (by rfl) hS0 ?ya9 ?ra9
  case ya9 =>
    intro w' hS
    obtain ⟨h0, h1⟩ := hS
    go_simp
    try with_reducible rfl
  case ra9 =>
  simp only [Act.put, List.setIfInBounds_toArray, List.set_cons_zero, List.set_cons_succ]
  refine RgN.n_take 9 ?va10 (by simp only [List.getElem?_toArray, List.getElem?_cons_zero, List.getElem?_cons_succ]; exact rfl) (by kernel_rfl) (by kernel_rfl) (by kernel_rfl) (RgN.safe_all _ _ _) (by rfl) hS0 ?ya10 ?ra10
  case ya10 =>
    intro w' hS
    obtain ⟨h0, h1⟩ := hS
    go_simp
    try with_reducible rfl
  case ra10 =>
  simp only [Act.put, List.setIfInBounds_toArray, List.set_cons_zero, List.set_cons_succ]
  refine RgN.n_take 10 ?va11 (by simp only [List.getElem?_toArray, List.getElem?_cons_zero, List.getElem?_cons_succ]; exact rfl) (by kernel_rfl) (by kernel_rfl) (by kernel_rfl) (RgN.safe_all _ _ _) (by rfl) hS0 ?ya11 ?ra11
  case ya11 =>
    intro w' hS
    obtain ⟨h0, h1⟩ := hS
    go_simp
    try with_reducible rfl
  case ra11 =>
  simp only [Act.put, List.setIfInBounds_toArray, List.set_cons_zero, List.set_cons_succ]
  refine RgN.n_take 11 ?va12 (by simp only [List.getElem?_toArray, List.getElem?_cons_zero, List.getElem?_cons_succ]; exact rfl) (by kernel_rfl) (by kernel_rfl) (by kernel_rfl) (RgN.safe_all _ _ _) (by rfl) hS0 ?ya12 ?ra12
  case ya12 =>
    intro w' hS
    obtain ⟨h0, h1⟩ := hS
    go_simp
    try with_reducible rfl
  case ra12 =>
  simp only [Act.put, List.setIfInBounds_toArray, List.set_cons_zero, List.set_cons_succ]
  refine RgN.n_one 12 (by kernel_rfl) (by simp only [List.getElem?_toArray, List.getElem?_cons_zero, List.getElem?_cons_succ]; exact rfl) (fun K hK => ?_)
  go_simp
  refine hK.out _ _ (fun _ => ⟨(World.cell?_alloc_lt _ _ _ (World.block_lt_of_cell? W.drew _ hS0.1)).trans hS0.1, (World.cell?_alloc_lt _ _ _ (World.block_lt_of_cell? W.drew _ hS0.2)).trans hS0.2⟩) ?_
  clear hK K
  try simp only [Act.put, List.setIfInBounds_toArray, List.set_cons_zero, List.set_cons_succ]
  refine RgN.n_one 13 (by kernel_rfl) (by simp only [List.getElem?_toArray, List.getElem?_cons_zero, List.getElem?_cons_succ]; exact rfl) (fun K hK => ?_)
  go_simp
  refine hK.out _ _ (fun _ => ⟨(World.cell?_alloc_lt _ _ _ (World.block_lt_of_cell? W.drew _ hS0.1)).trans hS0.1, (World.cell?_alloc_lt _ _ _ (World.block_lt_of_cell? W.drew _ hS0.2)).trans hS0.2⟩) ?_
  clear hK K
  try simp only [Act.put, List.setIfInBounds_toArray, List.set_cons_zero, List.set_cons_succ]
  refine RgN.n_done (by kernel_rfl) ?_ _
  exact hQ'.out _ _ _ _ _ _ _ _ _ _ _ _ _
set_option maxHeartbeats 4000000 in
theorem reg22 (W : World) (pb : Nat) (xa ya : Option Addr) (xn xc yn yc : Nat) (x y : Value) (hx : x = .slice xa xn xc) (hy : y = .slice ya yn yc) (Q : Exit → Act → World → Prop) {v0 v1 v2 v3 v4 v5 v6 v7 v8 v9 v10 v11 v12 v14 v15 v16 v17 v18 v19 v20 v21 v22 v23 v24 v25 v26 v27 v28 v29 v30 v31 v32 v33 v34 v35 v36 v37 v38 v39 v40 v41 v42 v43 v44 v45 v46 v47 v48 v49 v50 v51 v52 v53 v54 v55 v56 v57 v58 v59 v60 v61 v62 v63 v64 v65 v66 v67 v68 v69 v70 v71 v72 v73 v74 v75 v76 v77 v78 v79 v80 v81 v82 v83 v84 v85 v86 v87 v88 v89 v90 v91 v92 v93 v94 v95 v96 v97 v98 v99 v100 v101 v102 v103 v104 v105 v106 v107 v108 v109 v110 v111 v112 v113 v114 v115 v116 v117 v118 v119 v120 v121 v122 v123 v124 v125 v126 v127 v128 v129 v130 v131 v132 v133 v134 v135 v136 v137 v138 v139 v140 v141 v142 v143 v144 v145 v146 v147 v148 v149 v150 v151 v152 v153 v154 v155 v156 v157 v158 v159 v160 v161 v162 v163 v164 v165 v166 v167 v168 v169 v170 v171 v172 v173 v174 v175 v176 v177 v178 v179 v180 v181 v182 v183 v184 v185 v186 v187 v188 v189 v190 v191 v192 v193 v194 v195 v196 v197 v198 v199 v200 v201 v202 v203 v204 v205 v206 v207 v208 v209 v210 v211 v212 v213 v214 v215 v216 v217 v218 v219 v220 v221 v222 v223 v224 v225 v226 v227 v228 v229 v230 v231 v232 v233 v234 v235 v236 v237 v238 v239 v240 v241 v242 v243 v244 v245 v246 v247 v248 v249 v250 v251 v252 v253 v254 v255 v256 v257 v258 v259 v260 v261 v262 v263 v264 v265 v266 v267 v268 : Value}
    (h0 : W.cell? ⟨pb, 0, none⟩ = some x) (h1 : W.cell? ⟨pb, 1, none⟩ = some y)
    (hQ : ∀ (o115 o116 o117 o118 o119 o120 o121 o122 o123 o124 : Value), Q .normal { tmps := (List.toArray (v0 :: v1 :: v2 :: v3 :: v4 :: v5 :: v6 :: v7 :: v8 :: v9 :: v10 :: v11 :: v12 :: (.slice (some ⟨pb, 0, none⟩) 2 2) :: (.slice (some ⟨W.heap.size, 0, none⟩) 3 3) :: v15 :: v16 :: v17 :: v18 :: v19 :: v20 :: v21 :: v22 :: v23 :: v24 :: v25 :: v26 :: v27 :: v28 :: v29 :: v30 :: v31 :: v32 :: v33 :: v34 :: v35 :: v36 :: v37 :: v38 :: v39 :: v40 :: v41 :: v42 :: v43 :: v44 :: v45 :: v46 :: v47 :: v48 :: v49 :: v50 :: v51 :: v52 :: v53 :: v54 :: v55 :: v56 :: v57 :: v58 :: v59 :: v60 :: v61 :: v62 :: v63 :: v64 :: v65 :: v66 :: v67 :: v68 :: v69 :: v70 :: v71 :: v72 :: v73 :: v74 :: v75 :: v76 :: v77 :: v78 :: v79 :: v80 :: v81 :: v82 :: v83 :: v84 :: v85 :: v86 :: v87 :: v88 :: v89 :: v90 :: v91 :: v92 :: v93 :: v94 :: v95 :: v96 :: v97 :: v98 :: v99 :: v100 :: v101 :: v102 :: v103 :: v104 :: v105 :: v106 :: v107 :: v108 :: v109 :: v110 :: v111 :: v112 :: v113 :: v114 :: (o115) :: (o116) :: (o117) :: (o118) :: (o119) :: (o120) :: (o121) :: (o122) :: (o123) :: (o124) :: v125 :: v126 :: v127 :: v128 :: v129 :: v130 :: v131 :: v132 :: v133 :: v134 :: v135 :: v136 :: v137 :: v138 :: v139 :: v140 :: v141 :: v142 :: v143 :: v144 :: v145 :: v146 :: v147 :: v148 :: v149 :: v150 :: v151 :: v152 :: v153 :: v154 :: v155 :: v156 :: v157 :: v158 :: v159 :: v160 :: v161 :: v162 :: v163 :: v164 :: v165 :: v166 :: v167 :: v168 :: v169 :: v170 :: v171 :: v172 :: v173 :: v174 :: v175 :: v176 :: v177 :: v178 :: v179 :: v180 :: v181 :: v182 :: v183 :: v184 :: v185 :: v186 :: v187 :: v188 :: v189 :: v190 :: v191 :: v192 :: v193 :: v194 :: v195 :: v196 :: v197 :: v198 :: v199 :: v200 :: v201 :: v202 :: v203 :: v204 :: v205 :: v206 :: v207 :: v208 :: v209 :: v210 :: v211 :: v212 :: v213 :: v214 :: v215 :: v216 :: v217 :: v218 :: v219 :: v220 :: v221 :: v222 :: v223 :: v224 :: v225 :: v226 :: v227 :: v228 :: v229 :: v230 :: v231 :: v232 :: v233 :: v234 :: v235 :: v236 :: v237 :: v238 :: v239 :: v240 :: v241 :: v242 :: v243 :: v244 :: v245 :: v246 :: v247 :: v248 :: v249 :: v250 :: v251 :: v252 :: v253 :: v254 :: v255 :: v256 :: v257 :: v258 :: v259 :: v260 :: v261 :: v262 :: v263 :: v264 :: v265 :: v266 :: v267 :: v268 :: [])), defers := [] } (W.drew.alloc (.cells #[x, y, x] 35)))
    (c : Code) (hc : (Try.f4.body.bind (regOf 22)) = some c) :
    c.wp Try.prog Q { tmps := (List.toArray (v0 :: v1 :: v2 :: v3 :: v4 :: v5 :: v6 :: v7 :: v8 :: v9 :: v10 :: v11 :: v12 :: (.slice (some ⟨pb, 0, none⟩) 2 2) :: v14 :: v15 :: v16 :: v17 :: v18 :: v19 :: v20 :: v21 :: v22 :: v23 :: v24 :: v25 :: v26 :: v27 :: v28 :: v29 :: v30 :: v31 :: v32 :: v33 :: v34 :: v35 :: v36 :: v37 :: v38 :: v39 :: v40 :: v41 :: v42 :: v43 :: v44 :: v45 :: v46 :: v47 :: v48 :: v49 :: v50 :: v51 :: v52 :: v53 :: v54 :: v55 :: v56 :: v57 :: v58 :: v59 :: v60 :: v61 :: v62 :: v63 :: v64 :: v65 :: v66 :: v67 :: v68 :: v69 :: v70 :: v71 :: v72 :: v73 :: v74 :: v75 :: v76 :: v77 :: v78 :: v79 :: v80 :: v81 :: v82 :: v83 :: v84 :: v85 :: v86 :: v87 :: v88 :: v89 :: v90 :: v91 :: v92 :: v93 :: v94 :: v95 :: v96 :: v97 :: v98 :: v99 :: v100 :: v101 :: v102 :: v103 :: v104 :: v105 :: v106 :: v107 :: v108 :: v109 :: v110 :: v111 :: v112 :: v113 :: v114 :: v115 :: v116 :: v117 :: v118 :: v119 :: v120 :: v121 :: v122 :: v123 :: v124 :: v125 :: v126 :: v127 :: v128 :: v129 :: v130 :: v131 :: v132 :: v133 :: v134 :: v135 :: v136 :: v137 :: v138 :: v139 :: v140 :: v141 :: v142 :: v143 :: v144 :: v145 :: v146 :: v147 :: v148 :: v149 :: v150 :: v151 :: v152 :: v153 :: v154 :: v155 :: v156 :: v157 :: v158 :: v159 :: v160 :: v161 :: v162 :: v163 :: v164 :: v165 :: v166 :: v167 :: v168 :: v169 :: v170 :: v171 :: v172 :: v173 :: v174 :: v175 :: v176 :: v177 :: v178 :: v179 :: v180 :: v181 :: v182 :: v183 :: v184 :: v185 :: v186 :: v187 :: v188 :: v189 :: v190 :: v191 :: v192 :: v193 :: v194 :: v195 :: v196 :: v197 :: v198 :: v199 :: v200 :: v201 :: v202 :: v203 :: v204 :: v205 :: v206 :: v207 :: v208 :: v209 :: v210 :: v211 :: v212 :: v213 :: v214 :: v215 :: v216 :: v217 :: v218 :: v219 :: v220 :: v221 :: v222 :: v223 :: v224 :: v225 :: v226 :: v227 :: v228 :: v229 :: v230 :: v231 :: v232 :: v233 :: v234 :: v235 :: v236 :: v237 :: v238 :: v239 :: v240 :: v241 :: v242 :: v243 :: v244 :: v245 :: v246 :: v247 :: v248 :: v249 :: v250 :: v251 :: v252 :: v253 :: v254 :: v255 :: v256 :: v257 :: v258 :: v259 :: v260 :: v261 :: v262 :: v263 :: v264 :: v265 :: v266 :: v267 :: v268 :: [])), defers := [] } W := by
  have hc2 : some _ = some c := hc
  injection hc2 with hc3
  rw [← hc3]
  clear hc hc3
  subst hx hy
  have hQ' : Hid (_) := hQ
  have hS0 : W.drew.cell? ⟨pb, 0, none⟩ = some (.slice xa xn xc) ∧ W.drew.cell? ⟨pb, 1, none⟩ = some (.slice ya yn yc) := ⟨h0, h1⟩
  clear h0 h1 hQ
  refine regionP (fun _ => true) (fun W' => W'.cell? ⟨pb, 0, none⟩ = some (.slice xa xn xc) ∧ W'.cell? ⟨pb, 1, none⟩ = some (.slice ya yn yc)) (by kernel_rfl) ?_
  refine RgN.n_take 0 ?va1 (by simp only [List.getElem?_toArray, List.getElem?_cons_zero]; exact rfl) (by kernel_rfl) (by kernel_rfl) (by kernel_rfl) (RgN.safe_all _ _ _) (by rfl) hS0 ?ya1 ?ra1
  case ya1 =>
    intro w' hS
    obtain ⟨h0, h1⟩ := hS
    go_simp
    try with_reducible rfl
  case ra1 =>
  simp only [Act.put, List.setIfInBounds_toArray, List.set_cons_zero, List.set_cons_succ]
  refine RgN.n_take 1 ?va2 (by simp only [List.getElem?_toArray, List.getElem?_cons_zero, List.getElem?_cons_succ]; exact rfl) (by kernel_rfl) (by kernel_rfl) (by kernel_rfl) (RgN.safe_all _ _ _) (by rfl) hS0 ?ya2 ?ra2
  case ya2 =>
    intro w' hS
    obtain ⟨h0, h1⟩ := hS
    go_simp
    try with_reducible rfl
  case ra2 =>
  simp only [Act.put, List.setIfInBounds_toArray, List.set_cons_zero, List.set_cons_succ]
  refine RgN.n_take 2 ?va3 (by simp only [List.getElem?_toArray, List.getElem?_cons_zero, List.getElem?_cons_succ]; exact rfl) (by kernel_rfl) (by kernel_rfl) (by kernel_rfl) (RgN.safe_all _ _ _) (by rfl) hS0 ?ya3 ?ra3
  case ya3 =>
    intro w' hS
    obtain ⟨h0, h1⟩ := hS
    go_simp
    try with_reducible rfl
  case ra3 =>
  simp only [Act.put, List.setIfInBounds_toArray, List.set_cons_zero, List.set_cons_succ]
  refine RgN.n_take 3 ?va4 (by simp only [List.getElem?_toArray, List.getElem?_cons_zero, List.getElem?_cons_succ]; exact rfl) (by kernel_rfl) (by kernel_rfl) (by kernel_rfl) (RgN.safe_all _ _ _) (by rfl) hS0 ?ya4 ?ra4
  case ya4 =>
    intro w' hS
    obtain ⟨h0, h1⟩ := hS
    go_simp
    try with_reducible rfl
  case ra4 =>
  simp only [Act.put, List.setIfInBounds_toArray, List.set_cons_zero, List.set_cons_succ]
  refine RgN.n_take 4 ?va5 (by simp only [List.getElem?_toArray, List.getElem?_cons_zero, List.getElem?_cons_succ]; exact rfl) (by kernel_rfl) (by kernel_rfl) (by kernel_rfl) (RgN.safe_all _ _ _) (by rfl) hS0 ?ya5 ?ra5
  case ya5 =>
    intro w' hS
    obtain ⟨h0, h1⟩ := hS
    go_simp
    try with_reducible rfl
  case ra5 =>
  simp only [Act.put, List.setIfInBounds_toArray, List.set_cons_zero, List.set_cons_succ]
  refine RgN.n_take 5 ?va6 (by simp only [List.getElem?_toArray, List.getElem?_cons_zero, List.getElem?_cons_succ]; exact rfl) (by kernel_rfl) (by kernel_rfl) (by kernel_rfl) (RgN.safe_all _ _ _) (by rfl) hS0 ?ya6 ?ra6
  case ya6 =>
    intro w' hS
    obtain ⟨h0, h1⟩ := hS
    go_simp
    try with_reducible rfl
  case ra6 =>
  simp only [Act.put, List.setIfInBounds_toArray, List.set_cons_zero, List.set_cons_succ]
  refine RgN.n_take 6 ?va7 (by simp only [List.getElem?_toArray, List.getElem?_cons_zero, List.getElem?_cons_succ]; exact rfl) (by kernel_rfl) (by kernel_rfl) (by kernel_rfl) (RgN.safe_all _ _ _) (by rfl) hS0 ?ya7 ?ra7
  case ya7 =>
    intro w' hS
    obtain ⟨h0, h1⟩ := hS
    go_simp
    try with_reducible rfl
  case ra7 =>
  simp only [Act.put, List.setIfInBounds_toArray, List.set_cons_zero, List.set_cons_succ]
  refine RgN.n_take 7 ?va8 (by simp only [List.getElem?_toArray, List.getElem?_cons_zero, List.getElem?_cons_succ]; exact rfl) (by kernel_rfl) (by kernel_rfl) (by kernel_rfl) (RgN.safe_all _ _ _) (by rfl) hS0 ?ya8 ?ra8
  case ya8 =>
    intro w' hS
    obtain ⟨h0, h1⟩ := hS
    go_simp
    try with_reducible rfl
  case ra8 =>
  simp only [Act.put, List.setIfInBounds_toArray, List.set_cons_zero, List.set_cons_succ]
  refine RgN.n_take 8 ?va9 (by simp only [List.getElem?_toArray, List.getElem?_cons_zero, List.getElem?_cons_succ]; exact rfl) (by kernel_rfl) (by kernel_rfl) (by kernel_rfl) (RgN.safe_all _ _ _) (by rfl) hS0 ?ya9 ?ra9
  case ya9 =>
    intro w' hS
    obtain ⟨h0, h1⟩ := hS
    go_simp
    try with_reducible rfl
  case ra9 =>
  simp only [Act.put, List.setIfInBounds_toArray, List.set_cons_zero, List.set_cons_succ]
  refine RgN.n_one 9 (by kernel_rfl) (by simp only [List.getElem?_toArray, List.getElem?_cons_zero, List.getElem?_cons_succ]; exact rfl) (fun K hK => ?_)
  go_simp
  refine hK.out _ _ (fun _ => ⟨(World.cell?_alloc_lt _ _ _ (World.block_lt_of_cell? W.drew _ hS0.1)).trans hS0.1, (World.cell?_alloc_lt _ _ _ (World.block_lt_of_cell? W.drew _ hS0.2)).trans hS0.2⟩) ?_
  clear hK K
  try simp only [Act.put, List.setIfInBounds_toArray, List.set_cons_zero, List.set_cons_succ]
  refine RgN.n_one 10 (by kernel_rfl) (by simp only [List.getElem?_toArray, List.getElem?_cons_zero, List.getElem?_cons_succ]; exact rfl) (fun K hK => ?_)
  go_simp
  refine hK.out _ _ (fun _ => ⟨(World.cell?_alloc_lt _ _ _ (World.block_lt_of_cell? W.drew _ hS0.1)).trans hS0.1, (World.cell?_alloc_lt _ _ _ (World.block_lt_of_cell? W.drew _ hS0.2)).trans hS0.2⟩) ?_
  clear hK K
  try simp only [Act.put, List.setIfInBounds_toArray, List.set_cons_zero, List.set_cons_succ]
  refine RgN.n_done (by kernel_rfl) ?_ _
  exact hQ'.out _ _ _ _ _ _ _ _ _ _
end Pk
end Go.Proofs.Ytdbhcemmaahemaa
