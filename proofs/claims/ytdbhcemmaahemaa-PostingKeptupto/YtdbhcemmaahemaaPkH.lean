import Derived.Test.YtdbhcemmaahemaaPkG
namespace Go.Proofs.Ytdbhcemmaahemaa
namespace Pk
open Go.RowKit Go.Sort Go.Lib
open PgMath (Inc setOf cnt)
open PgHpM (Hd)
set_option linter.unusedVariables false
set_option maxRecDepth 1000000

set_option maxHeartbeats 8000000 in
theorem reg23 (W : World) (ab pb tb : Nat) (xa ya a6 a7 a8 a9 : Option Addr) (xn xc yn yc n6 c6 n7 c7 n8 c8 n9 c9 : Nat) (G6 G7 G8 G9 : Option Addr → Nat → Nat → World → Prop) (Q : Exit → Act → World → Prop) {v0 v1 v2 v3 v4 v5 v6 v7 v8 v10 v11 v12 v15 v16 v17 v18 v19 v20 v21 v22 v23 v24 v25 v26 v27 v28 v29 v30 v31 v32 v33 v34 v35 v36 v37 v38 v39 v40 v41 v42 v43 v44 v45 v46 v47 v48 v49 v50 v51 v52 v53 v54 v55 v56 v57 v58 v59 v60 v61 v62 v63 v64 v65 v66 v67 v68 v69 v70 v71 v72 v73 v74 v75 v76 v77 v78 v79 v80 v81 v82 v83 v84 v85 v86 v87 v88 v89 v90 v91 v92 v93 v94 v95 v96 v97 v98 v99 v100 v101 v102 v103 v104 v105 v106 v107 v108 v109 v110 v111 v112 v113 v114 v115 v116 v117 v118 v119 v120 v121 v122 v123 v124 v125 v126 v127 v128 v129 v130 v131 v132 v133 v134 v135 v136 v137 v138 v139 v140 v141 v142 v143 v144 v145 v146 v147 v148 v149 v150 v151 v152 v153 v154 v155 v156 v157 v158 v159 v160 v161 v162 v163 v164 v165 v166 v167 v168 v169 v170 v171 v172 v173 v174 v175 v176 v177 v178 v179 v180 v181 v182 v183 v184 v185 v186 v187 v188 v189 v190 v191 v192 v193 v194 v195 v196 v197 v198 v199 v200 v201 v202 v203 v204 v205 v206 v207 v208 v209 v210 v211 v212 v213 v214 v215 v216 v217 v218 v219 v220 v221 v222 v223 v224 v225 v226 v227 v228 v229 v230 v231 v232 v233 v234 v235 v236 v237 v238 v239 v240 v241 v242 v243 v244 v245 v246 v247 v248 v249 v250 v251 v252 v253 v254 v255 v256 v257 v258 v259 v260 v261 v262 v263 v264 v265 v266 v267 v268 : Value}
    (hS : (fun W' : World => W'.cell? ⟨ab, 6, none⟩ = some (.slice a6 n6 c6) ∧ W'.cell? ⟨ab, 7, none⟩ = some (.slice a7 n7 c7) ∧ W'.cell? ⟨ab, 8, none⟩ = some (.slice a8 n8 c8) ∧ W'.cell? ⟨ab, 9, none⟩ = some (.slice a9 n9 c9) ∧ W'.cell? ⟨pb, 0, none⟩ = some (.slice xa xn xc) ∧ W'.cell? ⟨pb, 1, none⟩ = some (.slice ya yn yc)) W)
    (hR6 : ∀ W', Below W.heap.size W W' → Calls Try.prog 27 #[.int .i64 2, .slice (some ⟨tb, 0, none⟩) 3 3] W' fun e w' => ∃ a n c, e = .returned (.slice a n c) ∧ G6 a n c w' ∧ Below W'.heap.size W' w')
    (hE6 : ∀ W' a n c, Below W.heap.size W W' → G6 a n c W' → Calls Try.prog 26 #[.slice a6 n6 c6, .slice a n c] W' fun e w' => e = .returned (.bool true) ∧ Below W'.heap.size W' w')
    (hR7 : ∀ W', Below W.heap.size W W' → Calls Try.prog 28 #[.slice (some ⟨pb, 0, none⟩) 2 2] W' fun e w' => ∃ a n c, e = .returned (.slice a n c) ∧ G7 a n c w' ∧ Below W'.heap.size W' w')
    (hE7 : ∀ W' a n c, Below W.heap.size W W' → G7 a n c W' → Calls Try.prog 26 #[.slice a7 n7 c7, .slice a n c] W' fun e w' => e = .returned (.bool true) ∧ Below W'.heap.size W' w')
    (hR8 : ∀ W', Below W.heap.size W W' → Calls Try.prog 29 #[.slice xa xn xc, .slice ya yn yc] W' fun e w' => ∃ a n c, e = .returned (.slice a n c) ∧ G8 a n c w' ∧ Below W'.heap.size W' w')
    (hE8 : ∀ W' a n c, Below W.heap.size W W' → G8 a n c W' → Calls Try.prog 26 #[.slice a8 n8 c8, .slice a n c] W' fun e w' => e = .returned (.bool true) ∧ Below W'.heap.size W' w')
    (hR9 : ∀ W', Below W.heap.size W W' → Calls Try.prog 27 #[.int .i64 1, .slice (some ⟨pb, 0, none⟩) 2 2] W' fun e w' => ∃ a n c, e = .returned (.slice a n c) ∧ G9 a n c w' ∧ Below W'.heap.size W' w')
    (hE9 : ∀ W' a n c, Below W.heap.size W W' → G9 a n c W' → Calls Try.prog 26 #[.slice a9 n9 c9, .slice a n c] W' fun e w' => e = .returned (.bool true) ∧ Below W'.heap.size W' w')
    (hQ : ∀ (o125 o126 o127 o128 o129 o130 o131 o132 o133 o134 o135 o136 o137 o138 o139 o140 o141 o142 o143 o144 o145 o146 o147 o148 o149 o150 o151 o152 o153 o154 o155 o156 o157 o158 : Value) (W' : World), Below W.heap.size W W' → Q .normal { tmps := (List.toArray (v0 :: v1 :: v2 :: v3 :: v4 :: v5 :: v6 :: v7 :: v8 :: (.pointer (some ⟨ab, 0, none⟩)) :: v10 :: v11 :: v12 :: (.slice (some ⟨pb, 0, none⟩) 2 2) :: (.slice (some ⟨tb, 0, none⟩) 3 3) :: v15 :: v16 :: v17 :: v18 :: v19 :: v20 :: v21 :: v22 :: v23 :: v24 :: v25 :: v26 :: v27 :: v28 :: v29 :: v30 :: v31 :: v32 :: v33 :: v34 :: v35 :: v36 :: v37 :: v38 :: v39 :: v40 :: v41 :: v42 :: v43 :: v44 :: v45 :: v46 :: v47 :: v48 :: v49 :: v50 :: v51 :: v52 :: v53 :: v54 :: v55 :: v56 :: v57 :: v58 :: v59 :: v60 :: v61 :: v62 :: v63 :: v64 :: v65 :: v66 :: v67 :: v68 :: v69 :: v70 :: v71 :: v72 :: v73 :: v74 :: v75 :: v76 :: v77 :: v78 :: v79 :: v80 :: v81 :: v82 :: v83 :: v84 :: v85 :: v86 :: v87 :: v88 :: v89 :: v90 :: v91 :: v92 :: v93 :: v94 :: v95 :: v96 :: v97 :: v98 :: v99 :: v100 :: v101 :: v102 :: v103 :: v104 :: v105 :: v106 :: v107 :: v108 :: v109 :: v110 :: v111 :: v112 :: v113 :: v114 :: v115 :: v116 :: v117 :: v118 :: v119 :: v120 :: v121 :: v122 :: v123 :: v124 :: (o125) :: (o126) :: (o127) :: (o128) :: (o129) :: (o130) :: (o131) :: (o132) :: (o133) :: (o134) :: (o135) :: (o136) :: (o137) :: (o138) :: (o139) :: (o140) :: (o141) :: (o142) :: (o143) :: (o144) :: (o145) :: (o146) :: (o147) :: (o148) :: (o149) :: (o150) :: (o151) :: (o152) :: (o153) :: (o154) :: (o155) :: (o156) :: (o157) :: (o158) :: (.bool false) :: v160 :: v161 :: v162 :: v163 :: v164 :: v165 :: v166 :: v167 :: v168 :: v169 :: v170 :: v171 :: v172 :: v173 :: v174 :: v175 :: v176 :: v177 :: v178 :: v179 :: v180 :: v181 :: v182 :: v183 :: v184 :: v185 :: v186 :: v187 :: v188 :: v189 :: v190 :: v191 :: v192 :: v193 :: v194 :: v195 :: v196 :: v197 :: v198 :: v199 :: v200 :: v201 :: v202 :: v203 :: v204 :: v205 :: v206 :: v207 :: v208 :: v209 :: v210 :: v211 :: v212 :: v213 :: v214 :: v215 :: v216 :: v217 :: v218 :: v219 :: v220 :: v221 :: v222 :: v223 :: v224 :: v225 :: v226 :: v227 :: v228 :: v229 :: v230 :: v231 :: v232 :: v233 :: v234 :: v235 :: v236 :: v237 :: v238 :: v239 :: v240 :: v241 :: v242 :: v243 :: v244 :: v245 :: v246 :: v247 :: v248 :: v249 :: v250 :: v251 :: v252 :: v253 :: v254 :: v255 :: v256 :: v257 :: v258 :: v259 :: v260 :: v261 :: v262 :: v263 :: v264 :: v265 :: v266 :: v267 :: v268 :: [])), defers := [] } W')
    (c : Code) (hc : (Try.f4.body.bind (regOf 23)) = some c) :
    c.wp Try.prog Q { tmps := (List.toArray (v0 :: v1 :: v2 :: v3 :: v4 :: v5 :: v6 :: v7 :: v8 :: (.pointer (some ⟨ab, 0, none⟩)) :: v10 :: v11 :: v12 :: (.slice (some ⟨pb, 0, none⟩) 2 2) :: (.slice (some ⟨tb, 0, none⟩) 3 3) :: v15 :: v16 :: v17 :: v18 :: v19 :: v20 :: v21 :: v22 :: v23 :: v24 :: v25 :: v26 :: v27 :: v28 :: v29 :: v30 :: v31 :: v32 :: v33 :: v34 :: v35 :: v36 :: v37 :: v38 :: v39 :: v40 :: v41 :: v42 :: v43 :: v44 :: v45 :: v46 :: v47 :: v48 :: v49 :: v50 :: v51 :: v52 :: v53 :: v54 :: v55 :: v56 :: v57 :: v58 :: v59 :: v60 :: v61 :: v62 :: v63 :: v64 :: v65 :: v66 :: v67 :: v68 :: v69 :: v70 :: v71 :: v72 :: v73 :: v74 :: v75 :: v76 :: v77 :: v78 :: v79 :: v80 :: v81 :: v82 :: v83 :: v84 :: v85 :: v86 :: v87 :: v88 :: v89 :: v90 :: v91 :: v92 :: v93 :: v94 :: v95 :: v96 :: v97 :: v98 :: v99 :: v100 :: v101 :: v102 :: v103 :: v104 :: v105 :: v106 :: v107 :: v108 :: v109 :: v110 :: v111 :: v112 :: v113 :: v114 :: v115 :: v116 :: v117 :: v118 :: v119 :: v120 :: v121 :: v122 :: v123 :: v124 :: v125 :: v126 :: v127 :: v128 :: v129 :: v130 :: v131 :: v132 :: v133 :: v134 :: v135 :: v136 :: v137 :: v138 :: v139 :: v140 :: v141 :: v142 :: v143 :: v144 :: v145 :: v146 :: v147 :: v148 :: v149 :: v150 :: v151 :: v152 :: v153 :: v154 :: v155 :: v156 :: v157 :: v158 :: v159 :: v160 :: v161 :: v162 :: v163 :: v164 :: v165 :: v166 :: v167 :: v168 :: v169 :: v170 :: v171 :: v172 :: v173 :: v174 :: v175 :: v176 :: v177 :: v178 :: v179 :: v180 :: v181 :: v182 :: v183 :: v184 :: v185 :: v186 :: v187 :: v188 :: v189 :: v190 :: v191 :: v192 :: v193 :: v194 :: v195 :: v196 :: v197 :: v198 :: v199 :: v200 :: v201 :: v202 :: v203 :: v204 :: v205 :: v206 :: v207 :: v208 :: v209 :: v210 :: v211 :: v212 :: v213 :: v214 :: v215 :: v216 :: v217 :: v218 :: v219 :: v220 :: v221 :: v222 :: v223 :: v224 :: v225 :: v226 :: v227 :: v228 :: v229 :: v230 :: v231 :: v232 :: v233 :: v234 :: v235 :: v236 :: v237 :: v238 :: v239 :: v240 :: v241 :: v242 :: v243 :: v244 :: v245 :: v246 :: v247 :: v248 :: v249 :: v250 :: v251 :: v252 :: v253 :: v254 :: v255 :: v256 :: v257 :: v258 :: v259 :: v260 :: v261 :: v262 :: v263 :: v264 :: v265 :: v266 :: v267 :: v268 :: [])), defers := [] } W := by
  have hc2 : some _ = some c := hc
  injection hc2 with hc3
  rw [← hc3]
  clear hc hc3
  have hQ' : Hid (_) := hQ
  have hS0 : (fun W' : World => W'.cell? ⟨ab, 6, none⟩ = some (.slice a6 n6 c6) ∧ W'.cell? ⟨ab, 7, none⟩ = some (.slice a7 n7 c7) ∧ W'.cell? ⟨ab, 8, none⟩ = some (.slice a8 n8 c8) ∧ W'.cell? ⟨ab, 9, none⟩ = some (.slice a9 n9 c9) ∧ W'.cell? ⟨pb, 0, none⟩ = some (.slice xa xn xc) ∧ W'.cell? ⟨pb, 1, none⟩ = some (.slice ya yn yc)) W.drew := hS
  have HB0 : Below W.heap.size W W.drew := (Below.refl _ _).drew
  have kp : ∀ {A B : World}, Below A.heap.size A B → (fun W' : World => W'.cell? ⟨ab, 6, none⟩ = some (.slice a6 n6 c6) ∧ W'.cell? ⟨ab, 7, none⟩ = some (.slice a7 n7 c7) ∧ W'.cell? ⟨ab, 8, none⟩ = some (.slice a8 n8 c8) ∧ W'.cell? ⟨ab, 9, none⟩ = some (.slice a9 n9 c9) ∧ W'.cell? ⟨pb, 0, none⟩ = some (.slice xa xn xc) ∧ W'.cell? ⟨pb, 1, none⟩ = some (.slice ya yn yc)) A → (fun W' : World => W'.cell? ⟨ab, 6, none⟩ = some (.slice a6 n6 c6) ∧ W'.cell? ⟨ab, 7, none⟩ = some (.slice a7 n7 c7) ∧ W'.cell? ⟨ab, 8, none⟩ = some (.slice a8 n8 c8) ∧ W'.cell? ⟨ab, 9, none⟩ = some (.slice a9 n9 c9) ∧ W'.cell? ⟨pb, 0, none⟩ = some (.slice xa xn xc) ∧ W'.cell? ⟨pb, 1, none⟩ = some (.slice ya yn yc)) B := fun hb h => ⟨kept hb h.1, kept hb h.2.1, kept hb h.2.2.1, kept hb h.2.2.2.1, kept hb h.2.2.2.2.1, kept hb h.2.2.2.2.2⟩
  clear hS hQ
  refine regionP (fun _ => true) (fun W' => W'.cell? ⟨ab, 6, none⟩ = some (.slice a6 n6 c6) ∧ W'.cell? ⟨ab, 7, none⟩ = some (.slice a7 n7 c7) ∧ W'.cell? ⟨ab, 8, none⟩ = some (.slice a8 n8 c8) ∧ W'.cell? ⟨ab, 9, none⟩ = some (.slice a9 n9 c9) ∧ W'.cell? ⟨pb, 0, none⟩ = some (.slice xa xn xc) ∧ W'.cell? ⟨pb, 1, none⟩ = some (.slice ya yn yc)) (by kernel_rfl) ?_
  refine RgN.n_take 0 ?va1 (by simp only [List.getElem?_toArray, List.getElem?_cons_zero]; exact rfl) (by kernel_rfl) (by kernel_rfl) (by kernel_rfl) (RgN.safe_all _ _ _) (by rfl) hS0 ?ya1 ?ra1
  case ya1 =>
    intro w' hS
    obtain ⟨h0, h1, h2, h3, h4, h5⟩ := hS
    go_simp
    try with_reducible rfl
  case ra1 =>
  simp only [Act.put, List.setIfInBounds_toArray, List.set_cons_zero, List.set_cons_succ]
  refine RgN.n_take 1 ?va2 (by simp only [List.getElem?_toArray, List.getElem?_cons_zero, List.getElem?_cons_succ]; exact rfl) (by kernel_rfl) (by kernel_rfl) (by kernel_rfl) (RgN.safe_all _ _ _) (by rfl) hS0 ?ya2 ?ra2
  case ya2 =>
    intro w' hS
    obtain ⟨h0, h1, h2, h3, h4, h5⟩ := hS
    go_simp
    try with_reducible rfl
  case ra2 =>
  simp only [Act.put, List.setIfInBounds_toArray, List.set_cons_zero, List.set_cons_succ]
  refine RgN.n_take 2 ?va3 (by simp only [List.getElem?_toArray, List.getElem?_cons_zero, List.getElem?_cons_succ]; exact rfl) (by kernel_rfl) (by kernel_rfl) (by kernel_rfl) (RgN.safe_all _ _ _) (by rfl) hS0 ?ya3 ?ra3
  case ya3 =>
    intro w' hS
    obtain ⟨h0, h1, h2, h3, h4, h5⟩ := hS
    go_simp
    try with_reducible rfl
  case ra3 =>
  simp only [Act.put, List.setIfInBounds_toArray, List.set_cons_zero, List.set_cons_succ]
  refine RgN.n_one 3 (by kernel_rfl) (by simp only [List.getElem?_toArray, List.getElem?_cons_zero, List.getElem?_cons_succ]; exact rfl) (fun K hK => ?_)
  go_simp
  refine (hR6 _ HB0).mono ?_
  rintro e U1 ⟨ra6, rn6, rc6, rfl, hg6, hb1⟩
  have HB1 : Below W.heap.size W U1 := HB0.trans (hb1.mono HB0.size)
  have hS1 := kp hb1 hS0
  refine hK.out _ _ (fun _ => hS1) ?_
  clear hK K
  try simp only [Act.put, List.setIfInBounds_toArray, List.set_cons_zero, List.set_cons_succ]
  refine RgN.n_one 4 (by kernel_rfl) (by simp only [List.getElem?_toArray, List.getElem?_cons_zero, List.getElem?_cons_succ]; exact rfl) (fun K hK => ?_)
  go_simp
  refine (hE6 _ _ _ _ HB1 hg6).mono ?_
  rintro e U2 ⟨rfl, hb2⟩
  have HB2 : Below W.heap.size W U2 := HB1.trans (hb2.mono HB1.size)
  have hS2 := kp hb2 hS1
  refine hK.out _ _ (fun _ => hS2) ?_
  clear hK K
  try simp only [Act.put, List.setIfInBounds_toArray, List.set_cons_zero, List.set_cons_succ]
  refine RgN.n_take 5 ?va4 (by simp only [List.getElem?_toArray, List.getElem?_cons_zero, List.getElem?_cons_succ]; exact rfl) (by kernel_rfl) (by kernel_rfl) (by kernel_rfl) (RgN.safe_all _ _ _) (by rfl) hS2 ?ya4 ?ra4
  case ya4 =>
    intro w' hS
    obtain ⟨h0, h1, h2, h3, h4, h5⟩ := hS
    go_simp
    try with_reducible rfl
  case ra4 =>
  simp only [Act.put, List.setIfInBounds_toArray, List.set_cons_zero, List.set_cons_succ]
  refine RgN.n_take 6 ?va5 (by simp only [List.getElem?_toArray, List.getElem?_cons_zero, List.getElem?_cons_succ]; exact rfl) (by kernel_rfl) (by kernel_rfl) (by kernel_rfl) (RgN.safe_all _ _ _) (by rfl) hS2 ?ya5 ?ra5
  case ya5 =>
    intro w' hS
    obtain ⟨h0, h1, h2, h3, h4, h5⟩ := hS
    go_simp
    try with_reducible rfl
  case ra5 =>
  simp only [Act.put, List.setIfInBounds_toArray, List.set_cons_zero, List.set_cons_succ]
  refine RgN.n_take 7 ?va6 (by simp only [List.getElem?_toArray, List.getElem?_cons_zero, List.getElem?_cons_succ]; exact rfl) (by kernel_rfl) (by kernel_rfl) (by kernel_rfl) (RgN.safe_all _ _ _) (by rfl) hS2 ?ya6 ?ra6
  case ya6 =>
    intro w' hS
    obtain ⟨h0, h1, h2, h3, h4, h5⟩ := hS
    go_simp
    try with_reducible rfl
  case ra6 =>
  simp only [Act.put, List.setIfInBounds_toArray, List.set_cons_zero, List.set_cons_succ]
  refine RgN.n_take 8 ?va7 (by simp only [List.getElem?_toArray, List.getElem?_cons_zero, List.getElem?_cons_succ]; exact rfl) (by kernel_rfl) (by kernel_rfl) (by kernel_rfl) (RgN.safe_all _ _ _) (by rfl) hS2 ?ya7 ?ra7
  case ya7 =>
    intro w' hS
    obtain ⟨h0, h1, h2, h3, h4, h5⟩ := hS
    go_simp
    try with_reducible rfl
  case ra7 =>
  simp only [Act.put, List.setIfInBounds_toArray, List.set_cons_zero, List.set_cons_succ]
  refine RgN.n_take 9 ?va8 (by simp only [List.getElem?_toArray, List.getElem?_cons_zero, List.getElem?_cons_succ]; exact rfl) (by kernel_rfl) (by kernel_rfl) (by kernel_rfl) (RgN.safe_all _ _ _) (by rfl) hS2 ?ya8 ?ra8
  case ya8 =>
    intro w' hS
    obtain ⟨h0, h1, h2, h3, h4, h5⟩ := hS
    go_simp
    try with_reducible rfl
  case ra8 =>
  simp only [Act.put, List.setIfInBounds_toArray, List.set_cons_zero, List.set_cons_succ]
  refine RgN.n_one 10 (by kernel_rfl) (by simp only [List.getElem?_toArray, List.getElem?_cons_zero, List.getElem?_cons_succ]; exact rfl) (fun K hK => ?_)
  go_simp
  refine (hR7 _ HB2).mono ?_
  rintro e U3 ⟨ra7, rn7, rc7, rfl, hg7, hb3⟩
  have HB3 : Below W.heap.size W U3 := HB2.trans (hb3.mono HB2.size)
  have hS3 := kp hb3 hS2
  refine hK.out _ _ (fun _ => hS3) ?_
  clear hK K
  try simp only [Act.put, List.setIfInBounds_toArray, List.set_cons_zero, List.set_cons_succ]
  refine RgN.n_one 11 (by kernel_rfl) (by simp only [List.getElem?_toArray, List.getElem?_cons_zero, List.getElem?_cons_succ]; exact rfl) (fun K hK => ?_)
  go_simp
  refine (hE7 _ _ _ _ HB3 hg7).mono ?_
  rintro e U4 ⟨rfl, hb4⟩
  have HB4 : Below W.heap.size W U4 := HB3.trans (hb4.mono HB3.size)
  have hS4 := kp hb4 hS3
  refine hK.out _ _ (fun _ => hS4) ?_
  clear hK K
  try simp only [Act.put, List.setIfInBounds_toArray, List.set_cons_zero, List.set_cons_succ]
  refine RgN.n_take 12 ?va9 (by simp only [List.getElem?_toArray, List.getElem?_cons_zero, List.getElem?_cons_succ]; exact rfl) (by kernel_rfl) (by kernel_rfl) (by kernel_rfl) (RgN.safe_all _ _ _) (by rfl) hS4 ?ya9 ?ra9
  case ya9 =>
    intro w' hS
    obtain ⟨h0, h1, h2, h3, h4, h5⟩ := hS
    go_simp
    try with_reducible rfl
  case ra9 =>
  simp only [Act.put, List.setIfInBounds_toArray, List.set_cons_zero, List.set_cons_succ]
  refine RgN.n_take 13 ?va10 (by simp only [List.getElem?_toArray, List.getElem?_cons_zero, List.getElem?_cons_succ]; exact rfl) (by kernel_rfl) (by kernel_rfl) (by kernel_rfl) (RgN.safe_all _ _ _) (by rfl) hS4 ?ya10 ?ra10
  case ya10 =>
    intro w' hS
    obtain ⟨h0, h1, h2, h3, h4, h5⟩ := hS
    go_simp
    try with_reducible rfl
  case ra10 =>
  simp only [Act.put, List.setIfInBounds_toArray, List.set_cons_zero, List.set_cons_succ]
  refine RgN.n_take 14 ?va11 (by simp only [List.getElem?_toArray, List.getElem?_cons_zero, List.getElem?_cons_succ]; exact rfl) (by kernel_rfl) (by kernel_rfl) (by kernel_rfl) (RgN.safe_all _ _ _) (by rfl) hS4 ?ya11 ?ra11
  case ya11 =>
    intro w' hS
    obtain ⟨h0, h1, h2, h3, h4, h5⟩ := hS
    go_simp
    try with_reducible rfl
  case ra11 =>
  simp only [Act.put, List.setIfInBounds_toArray, List.set_cons_zero, List.set_cons_succ]
  refine RgN.n_take 15 ?va12 (by simp only [List.getElem?_toArray, List.getElem?_cons_zero, List.getElem?_cons_succ]; exact rfl) (by kernel_rfl) (by kernel_rfl) (by kernel_rfl) (RgN.safe_all _ _ _) (by rfl) hS4 ?ya12 ?ra12
  case ya12 =>
    intro w' hS
    obtain ⟨h0, h1, h2, h3, h4, h5⟩ := hS
    go_simp
    try with_reducible rfl
  case ra12 =>
  simp only [Act.put, List.setIfInBounds_toArray, List.set_cons_zero, List.set_cons_succ]
  refine RgN.n_take 16 ?va13 (by simp only [List.getElem?_toArray, List.getElem?_cons_zero, List.getElem?_cons_succ]; exact rfl) (by kernel_rfl) (by kernel_rfl) (by kernel_rfl) (RgN.safe_all _ _ _) (by rfl) hS4 ?ya13 ?ra13
  case ya13 =>
    intro w' hS
    obtain ⟨h0, h1, h2, h3, h4, h5⟩ := hS
    go_simp
    try with_reducible rfl
  case ra13 =>
  simp only [Act.put, List.setIfInBounds_toArray, List.set_cons_zero, List.set_cons_succ]
  refine RgN.n_take 17 ?va14 (by simp only [List.getElem?_toArray, List.getElem?_cons_zero, List.getElem?_cons_succ]; exact rfl) (by kernel_rfl) (by kernel_rfl) (by kernel_rfl) (RgN.safe_all _ _ _) (by rfl) hS4 ?ya14 ?ra14
  case ya14 =>
    intro w' hS
    obtain ⟨h0, h1, h2, h3, h4, h5⟩ := hS
    go_simp
    try with_reducible rfl
  case ra14 =>
  simp only [Act.put, List.setIfInBounds_toArray, List.set_cons_zero, List.set_cons_succ]
  refine RgN.n_take 18 ?va15 (by simp only [List.getElem?_toArray, List.getElem?_cons_zero, List.getElem?_cons_succ]; exact rfl) (by kernel_rfl) (by kernel_rfl) (by kernel_rfl) (RgN.safe_all _ _ _) (by rfl) hS4 ?ya15 ?ra15
  case ya15 =>
    intro w' hS
    obtain ⟨h0, h1, h2, h3, h4, h5⟩ := hS
    go_simp
    try with_reducible rfl
  case ra15 =>
  simp only [Act.put, List.setIfInBounds_toArray, List.set_cons_zero, List.set_cons_succ]
  refine RgN.n_take 19 ?va16 (by simp only [List.getElem?_toArray, List.getElem?_cons_zero, List.getElem?_cons_succ]; exact rfl) (by kernel_rfl) (by kernel_rfl) (by kernel_rfl) (RgN.safe_all _ _ _) (by rfl) hS4 ?ya16 ?ra16
  case ya16 =>
    intro w' hS
    obtain ⟨h0, h1, h2, h3, h4, h5⟩ := hS
    go_simp
    try with_reducible rfl
  case ra16 =>
  simp only [Act.put, List.setIfInBounds_toArray, List.set_cons_zero, List.set_cons_succ]
  refine RgN.n_take 20 ?va17 (by simp only [List.getElem?_toArray, List.getElem?_cons_zero, List.getElem?_cons_succ]; exact rfl) (by kernel_rfl) (by kernel_rfl) (by kernel_rfl) (RgN.safe_all _ _ _) (by rfl) hS4 ?ya17 ?ra17
  case ya17 =>
    intro w' hS
    obtain ⟨h0, h1, h2, h3, h4, h5⟩ := hS
    go_simp
    try with_reducible rfl
  case ra17 =>
  simp only [Act.put, List.setIfInBounds_toArray, List.set_cons_zero, List.set_cons_succ]
  refine RgN.n_take 21 ?va18 (by simp only [List.getElem?_toArray, List.getElem?_cons_zero, List.getElem?_cons_succ]; exact rfl) (by kernel_rfl) (by kernel_rfl) (by kernel_rfl) (RgN.safe_all _ _ _) (by rfl) hS4 ?ya18 ?ra18
  case ya18 =>
    intro w' hS
    obtain ⟨h0, h1, h2, h3, h4, h5⟩ := hS
    go_simp
    try with_reducible rfl
  case ra18 =>
  simp only [Act.put, List.setIfInBounds_toArray, List.set_cons_zero, List.set_cons_succ]
  refine RgN.n_take 22 ?va19 (by simp only [List.getElem?_toArray, List.getElem?_cons_zero, List.getElem?_cons_succ]; exact rfl) (by kernel_rfl) (by kernel_rfl) (by kernel_rfl) (RgN.safe_all _ _ _) (by rfl) hS4 ?ya19 ?ra19
  case ya19 =>
    intro w' hS
    obtain ⟨h0, h1, h2, h3, h4, h5⟩ := hS
    go_simp
    try with_reducible rfl
  case ra19 =>
  simp only [Act.put, List.setIfInBounds_toArray, List.set_cons_zero, List.set_cons_succ]
  refine RgN.n_one 23 (by kernel_rfl) (by simp only [List.getElem?_toArray, List.getElem?_cons_zero, List.getElem?_cons_succ]; exact rfl) (fun K hK => ?_)
  go_simp
  refine (hR8 _ HB4).mono ?_
  rintro e U5 ⟨ra8, rn8, rc8, rfl, hg8, hb5⟩
  have HB5 : Below W.heap.size W U5 := HB4.trans (hb5.mono HB4.size)
  have hS5 := kp hb5 hS4
  refine hK.out _ _ (fun _ => hS5) ?_
  clear hK K
  try simp only [Act.put, List.setIfInBounds_toArray, List.set_cons_zero, List.set_cons_succ]
  refine RgN.n_one 24 (by kernel_rfl) (by simp only [List.getElem?_toArray, List.getElem?_cons_zero, List.getElem?_cons_succ]; exact rfl) (fun K hK => ?_)
  go_simp
  refine (hE8 _ _ _ _ HB5 hg8).mono ?_
  rintro e U6 ⟨rfl, hb6⟩
  have HB6 : Below W.heap.size W U6 := HB5.trans (hb6.mono HB5.size)
  have hS6 := kp hb6 hS5
  refine hK.out _ _ (fun _ => hS6) ?_
  clear hK K
  try simp only [Act.put, List.setIfInBounds_toArray, List.set_cons_zero, List.set_cons_succ]
  refine RgN.n_take 25 ?va20 (by simp only [List.getElem?_toArray, List.getElem?_cons_zero, List.getElem?_cons_succ]; exact rfl) (by kernel_rfl) (by kernel_rfl) (by kernel_rfl) (RgN.safe_all _ _ _) (by rfl) hS6 ?ya20 ?ra20
  case ya20 =>
    intro w' hS
    obtain ⟨h0, h1, h2, h3, h4, h5⟩ := hS
    go_simp
    try with_reducible rfl
  case ra20 =>
  simp only [Act.put, List.setIfInBounds_toArray, List.set_cons_zero, List.set_cons_succ]
  refine RgN.n_take 26 ?va21 (by simp only [List.getElem?_toArray, List.getElem?_cons_zero, List.getElem?_cons_succ]; exact rfl) (by kernel_rfl) (by kernel_rfl) (by kernel_rfl) (RgN.safe_all _ _ _) (by rfl) hS6 ?ya21 ?ra21
  case ya21 =>
    intro w' hS
    obtain ⟨h0, h1, h2, h3, h4, h5⟩ := hS
    go_simp
    try with_reducible rfl
  case ra21 =>
  simp only [Act.put, List.setIfInBounds_toArray, List.set_cons_zero, List.set_cons_succ]
  refine RgN.n_take 27 ?va22 (by simp only [List.getElem?_toArray, List.getElem?_cons_zero, List.getElem?_cons_succ]; exact rfl) (by kernel_rfl) (by kernel_rfl) (by kernel_rfl) (RgN.safe_all _ _ _) (by rfl) hS6 ?ya22 ?ra22
  case ya22 =>
    intro w' hS
    obtain ⟨h0, h1, h2, h3, h4, h5⟩ := hS
    go_simp
    try with_reducible rfl
  case ra22 =>
  simp only [Act.put, List.setIfInBounds_toArray, List.set_cons_zero, List.set_cons_succ]
  refine RgN.n_take 28 ?va23 (by simp only [List.getElem?_toArray, List.getElem?_cons_zero, List.getElem?_cons_succ]; exact rfl) (by kernel_rfl) (by kernel_rfl) (by kernel_rfl) (RgN.safe_all _ _ _) (by rfl) hS6 ?ya23 ?ra23
  case ya23 =>
    intro w' hS
    obtain ⟨h0, h1, h2, h3, h4, h5⟩ := hS
    go_simp
    try with_reducible rfl
  case ra23 =>
  simp only [Act.put, List.setIfInBounds_toArray, List.set_cons_zero, List.set_cons_succ]
  refine RgN.n_take 29 ?va24 (by simp only [List.getElem?_toArray, List.getElem?_cons_zero, List.getElem?_cons_succ]; exact rfl) (by kernel_rfl) (by kernel_rfl) (by kernel_rfl) (RgN.safe_all _ _ _) (by rfl) hS6 ?ya24 ?ra24
  case ya24 =>
    intro w' hS
    obtain ⟨h0, h1, h2, h3, h4, h5⟩ := hS
    go_simp
    try with_reducible rfl
  case ra24 =>
  simp only [Act.put, List.setIfInBounds_toArray, List.set_cons_zero, List.set_cons_succ]
  refine RgN.n_take 30 ?va25 (by simp only [List.getElem?_toArray, List.getElem?_cons_zero, List.getElem?_cons_succ]; exact rfl) (by kernel_rfl) (by kernel_rfl) (by kernel_rfl) (RgN.safe_all _ _ _) (by rfl) hS6 ?ya25 ?ra25
  case ya25 =>
    intro w' hS
    obtain ⟨h0, h1, h2, h3, h4, h5⟩ := hS
    go_simp
    try with_reducible rfl
  case ra25 =>
  simp only [Act.put, List.setIfInBounds_toArray, List.set_cons_zero, List.set_cons_succ]
  refine RgN.n_one 31 (by kernel_rfl) (by simp only [List.getElem?_toArray, List.getElem?_cons_zero, List.getElem?_cons_succ]; exact rfl) (fun K hK => ?_)
  go_simp
  refine (hR9 _ HB6).mono ?_
  rintro e U7 ⟨ra9, rn9, rc9, rfl, hg9, hb7⟩
  have HB7 : Below W.heap.size W U7 := HB6.trans (hb7.mono HB6.size)
  have hS7 := kp hb7 hS6
  refine hK.out _ _ (fun _ => hS7) ?_
  clear hK K
  try simp only [Act.put, List.setIfInBounds_toArray, List.set_cons_zero, List.set_cons_succ]
  refine RgN.n_one 32 (by kernel_rfl) (by simp only [List.getElem?_toArray, List.getElem?_cons_zero, List.getElem?_cons_succ]; exact rfl) (fun K hK => ?_)
  go_simp
  refine (hE9 _ _ _ _ HB7 hg9).mono ?_
  rintro e U8 ⟨rfl, hb8⟩
  have HB8 : Below W.heap.size W U8 := HB7.trans (hb8.mono HB7.size)
  have hS8 := kp hb8 hS7
  refine hK.out _ _ (fun _ => hS8) ?_
  clear hK K
  try simp only [Act.put, List.setIfInBounds_toArray, List.set_cons_zero, List.set_cons_succ]
  refine RgN.n_take 33 ?va26 (by simp only [List.getElem?_toArray, List.getElem?_cons_zero, List.getElem?_cons_succ]; exact rfl) (by kernel_rfl) (by kernel_rfl) (by kernel_rfl) (RgN.safe_all _ _ _) (by rfl) hS8 ?ya26 ?ra26
  case ya26 =>
    intro w' hS
    obtain ⟨h0, h1, h2, h3, h4, h5⟩ := hS
    go_simp
    try with_reducible rfl
  case ra26 =>
  simp only [Act.put, List.setIfInBounds_toArray, List.set_cons_zero, List.set_cons_succ]
  refine RgN.n_take 34 ?va27 (by simp only [List.getElem?_toArray, List.getElem?_cons_zero, List.getElem?_cons_succ]; exact rfl) (by kernel_rfl) (by kernel_rfl) (by kernel_rfl) (RgN.safe_all _ _ _) (by rfl) hS8 ?ya27 ?ra27
  case ya27 =>
    intro w' hS
    obtain ⟨h0, h1, h2, h3, h4, h5⟩ := hS
    go_simp
    try with_reducible rfl
  case ra27 =>
  simp only [Act.put, List.setIfInBounds_toArray, List.set_cons_zero, List.set_cons_succ]
  refine RgN.n_done (by kernel_rfl) ?_ _
  exact hQ'.out _ _ _ _ _ _ _ _ _ _ _ _ _ _ _ _ _ _ _ _ _ _ _ _ _ _ _ _ _ _ _ _ _ _ _ HB8
end Pk
end Go.Proofs.Ytdbhcemmaahemaa
