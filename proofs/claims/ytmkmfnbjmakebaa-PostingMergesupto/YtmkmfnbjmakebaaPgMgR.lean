import Derived.Test.YtmkmfnbjmakebaaPgMgL
namespace Go.Proofs.Ytmkmfnbjmakebaa
open Go.RowKit Go.Sort Go.Lib Go.Shelf
open PgMath (Inc setOf cnt)
open PgHpM (Hd)
open PgCnM (occ)
open PgSeq (Mv Still SeqT range_t range_tn)
set_option linter.unusedVariables false
set_option maxRecDepth 100000
attribute [local go_sem] Oper.semAt_some

/-- The first ranging over a function in a code. -/
def rng1 : Code → Option Code
  | .rangeFunc g ps a b => some (.rangeFunc g ps a b)
  | .seq a b => match rng1 a with
    | some c => some c
    | none => rng1 b
  | .cond _ a b => match rng1 a with
    | some c => some c
    | none => rng1 b
  | .block _ a => rng1 a
  | .loop a => rng1 a
  | .scope a => rng1 a
  | _ => none
theorem keepsFrom_below {B : Nat} {W W' : World} (h : Below W.heap.size W W') : KeepsFrom B W W' := ⟨h.size, fun k o _ hk _ => (h.block k (Array.getElem?_eq_some_iff.1 hk).1).trans hk⟩
theorem kpM_below {B : Nat} {W W' : World} (h : Below W.heap.size W W') (hB : B ≤ W.heap.size) : KpM B W W' := ⟨h.mono hB, fun k cs t fz hk _ => (h.block k (Array.getElem?_eq_some_iff.1 hk).1).trans hk⟩
theorem kpM_set {B b : Nat} {W : World} {v : Value} (v' : Value) (h : Boxed W b 3 v) (hB : B ≤ b) : KpM B W (W.setCell ⟨b, 0, none⟩ v') := by
  refine ⟨(Below.refl B W).setCell hB v', fun k cs t fz hk ht => ?_⟩
  by_cases e : k = b
  · subst e
    unfold Boxed at h
    rw [hk] at h
    injection h with h
    injection h with _ h
    subst h
    exact absurd ht (by decide)
  · exact (Below.heap_setCell _ _ _ _ e).trans hk
theorem bas_mv {w A W : World} {hi2 bw bs lo hi bx uc : Nat} {mst : Int} {ua : Option Addr} {U : List Int} {Qs : List Hd} (h : Bas w A hi2 bw bs lo hi bx uc mst ua U Qs) (hb : Below A.heap.size A W) : Bas w W hi2 bw bs lo hi bx uc mst ua U Qs := h.below hb

set_option maxHeartbeats 2000000 in
theorem range_round (w A : World) (hi2 bw bs lo hi bx uc : Nat) (mst : Int) (ua : Option Addr) (U : List Int) (Qs : List Hd) (D : List _) (Q : Exit → Act → World → Prop)
    {v0 v1 v2 v5 v6 v9 v10 v11 v13 v14 v15 v16 v17 v18 v19 v20 v21 v22 v23 v24 v25 v26 v27 v28 v29 v30 v31 v32 v33 v34 v35 v36 v37 v38 v39 v40 v41 v42 v43 v44 v45 v46 v47 v48 v49 v50 v51 v52 v53 v54 v55 v56 v57 v58 v59 v60 v61 v62 v63 v64 v65 v66 v67 v68 v69 v70 v71 v72 v73 v74 v75 v76 v78 v79 v80 v81 v82 v83 v84 v85 v86 v87 v88 v89 v90 v91 v92 v93 v94 v95 v96 v97 v98 v99 v100 v101 v102 v103 v104 v105 v106 v107 v108 v109 v110 v111 v112 v113 v114 v115 v116 v117 v118 v119 v120 v121 v122 v123 v124 v125 v126 : Value}
    (hB : Bas w A hi2 bw bs lo hi bx uc mst ua U Qs) (hhi : hi ≤ A.heap.size) (hms : 1 ≤ mst ∧ mst ≤ (U.length : Int) + 1) (hQl : Qs.length * 24 ≤ 140737488355328 ∧ IsU (lsts (some1 Qs)) U) (hU : U.length ≤ 1048576)
    (hn : ∀ d W', A.heap.size ≤ d → Below A.heap.size A W' → W'.heap[d]? = some (.deferred (some [])) → Boxed W' A.heap.size 3 (.int .i64 (U.length : Int)) → (U.length : Int) < mst → Q .normal { tmps := (List.toArray (v0 :: v1 :: v2 :: (.pointer (some ⟨w.heap.size, 0, none⟩)) :: (.pointer (some ⟨w.heap.size + 1, 0, none⟩)) :: v5 :: v6 :: (.pointer (some ⟨bw, 0, none⟩)) :: (.pointer (some ⟨bs, 0, none⟩)) :: v9 :: v10 :: v11 :: (.pointer (some ⟨A.heap.size, 0, none⟩)) :: v13 :: v14 :: v15 :: v16 :: v17 :: v18 :: v19 :: v20 :: v21 :: v22 :: v23 :: v24 :: v25 :: v26 :: v27 :: v28 :: v29 :: v30 :: v31 :: v32 :: v33 :: v34 :: v35 :: v36 :: v37 :: v38 :: v39 :: v40 :: v41 :: v42 :: v43 :: v44 :: v45 :: v46 :: v47 :: v48 :: v49 :: v50 :: v51 :: v52 :: v53 :: v54 :: v55 :: v56 :: v57 :: v58 :: v59 :: v60 :: v61 :: v62 :: v63 :: v64 :: v65 :: v66 :: v67 :: v68 :: v69 :: v70 :: v71 :: v72 :: v73 :: v74 :: v75 :: v76 :: (.func (.func 29) #[] #[.pointer (some ⟨bx, 0, none⟩)]) :: v78 :: v79 :: v80 :: v81 :: v82 :: v83 :: v84 :: v85 :: v86 :: v87 :: v88 :: v89 :: v90 :: v91 :: v92 :: v93 :: v94 :: v95 :: v96 :: v97 :: v98 :: v99 :: v100 :: v101 :: v102 :: v103 :: v104 :: v105 :: v106 :: v107 :: v108 :: v109 :: v110 :: v111 :: v112 :: v113 :: v114 :: v115 :: v116 :: v117 :: v118 :: v119 :: v120 :: v121 :: v122 :: v123 :: v124 :: v125 :: v126 :: [])), defers := { target := .collected d, args := #[] } :: D } W')
    (hx : ∀ d W', A.heap.size ≤ d → Below A.heap.size A W' → W'.heap[d]? = some (.deferred (some [])) → Boxed W' A.heap.size 3 (.int .i64 mst) → Q (.exit 6) { tmps := (List.toArray (v0 :: v1 :: v2 :: (.pointer (some ⟨w.heap.size, 0, none⟩)) :: (.pointer (some ⟨w.heap.size + 1, 0, none⟩)) :: v5 :: v6 :: (.pointer (some ⟨bw, 0, none⟩)) :: (.pointer (some ⟨bs, 0, none⟩)) :: v9 :: v10 :: v11 :: (.pointer (some ⟨A.heap.size, 0, none⟩)) :: v13 :: v14 :: v15 :: v16 :: v17 :: v18 :: v19 :: v20 :: v21 :: v22 :: v23 :: v24 :: v25 :: v26 :: v27 :: v28 :: v29 :: v30 :: v31 :: v32 :: v33 :: v34 :: v35 :: v36 :: v37 :: v38 :: v39 :: v40 :: v41 :: v42 :: v43 :: v44 :: v45 :: v46 :: v47 :: v48 :: v49 :: v50 :: v51 :: v52 :: v53 :: v54 :: v55 :: v56 :: v57 :: v58 :: v59 :: v60 :: v61 :: v62 :: v63 :: v64 :: v65 :: v66 :: v67 :: v68 :: v69 :: v70 :: v71 :: v72 :: v73 :: v74 :: v75 :: v76 :: (.func (.func 29) #[] #[.pointer (some ⟨bx, 0, none⟩)]) :: v78 :: v79 :: v80 :: v81 :: v82 :: v83 :: v84 :: v85 :: v86 :: v87 :: v88 :: v89 :: v90 :: v91 :: v92 :: v93 :: v94 :: v95 :: v96 :: v97 :: v98 :: v99 :: v100 :: v101 :: v102 :: v103 :: v104 :: v105 :: v106 :: v107 :: v108 :: v109 :: v110 :: v111 :: v112 :: v113 :: v114 :: v115 :: v116 :: v117 :: v118 :: v119 :: v120 :: v121 :: v122 :: v123 :: v124 :: v125 :: v126 :: [])), defers := { target := .collected d, args := #[] } :: D } W')
    (c : Code) (hc : (Try.f4.body.bind rng1) = some c) :
    c.wpIn Fence.wide 8 Try.prog Q { tmps := (List.toArray (v0 :: v1 :: v2 :: (.pointer (some ⟨w.heap.size, 0, none⟩)) :: (.pointer (some ⟨w.heap.size + 1, 0, none⟩)) :: v5 :: v6 :: (.pointer (some ⟨bw, 0, none⟩)) :: (.pointer (some ⟨bs, 0, none⟩)) :: v9 :: v10 :: v11 :: (.pointer (some ⟨A.heap.size, 0, none⟩)) :: v13 :: v14 :: v15 :: v16 :: v17 :: v18 :: v19 :: v20 :: v21 :: v22 :: v23 :: v24 :: v25 :: v26 :: v27 :: v28 :: v29 :: v30 :: v31 :: v32 :: v33 :: v34 :: v35 :: v36 :: v37 :: v38 :: v39 :: v40 :: v41 :: v42 :: v43 :: v44 :: v45 :: v46 :: v47 :: v48 :: v49 :: v50 :: v51 :: v52 :: v53 :: v54 :: v55 :: v56 :: v57 :: v58 :: v59 :: v60 :: v61 :: v62 :: v63 :: v64 :: v65 :: v66 :: v67 :: v68 :: v69 :: v70 :: v71 :: v72 :: v73 :: v74 :: v75 :: v76 :: (.func (.func 29) #[] #[.pointer (some ⟨bx, 0, none⟩)]) :: v78 :: v79 :: v80 :: v81 :: v82 :: v83 :: v84 :: v85 :: v86 :: v87 :: v88 :: v89 :: v90 :: v91 :: v92 :: v93 :: v94 :: v95 :: v96 :: v97 :: v98 :: v99 :: v100 :: v101 :: v102 :: v103 :: v104 :: v105 :: v106 :: v107 :: v108 :: v109 :: v110 :: v111 :: v112 :: v113 :: v114 :: v115 :: v116 :: v117 :: v118 :: v119 :: v120 :: v121 :: v122 :: v123 :: v124 :: v125 :: v126 :: [])), defers := D } (A.alloc (.cells #[.int .i64 0] 3)) := by
  have hb0 := hB.below ((Below.refl A.heap.size A).alloc (Nat.le_refl _) (.cells #[.int .i64 0] 3))
  have hI0 : RgI A mst U [] (A.alloc (.cells #[.int .i64 0] 3)) := ⟨Boxed.new A _ _, List.nil_prefix, (Below.refl _ _).alloc (Nat.le_refl _) _, by simp; omega⟩
  have hsz : (A.alloc (.cells #[.int .i64 0] 3)).heap.size = A.heap.size + 1 := by simp
  obtain ⟨W0, hW0⟩ : ∃ W0, A.alloc (.cells #[.int .i64 0] 3) = W0 := ⟨_, rfl⟩
  rw [hW0] at hb0 hI0 hsz ⊢
  have hc2 : some _ = some c := hc
  injection hc2 with hc3
  rw [← hc3]
  clear hc hc3
  refine range_t (T := TM) rfl (by omega) (gf := 29) (lb := #[.pointer (some ⟨bx, 0, none⟩)]) rfl trivial (enters_of Try.func29 (by kernel_rfl) rfl)
    (merge_stops 7 (by omega) W0 lo hi bx (tot (lsts Qs)) Qs U hb0.2.2.2.2.2.1.1 hQl.1 (Nat.le_refl _) hQl.2) KpM.trans (KpM.book (by omega)) (Below.refl _ _) (fun _ => rfl)
    (RgI A mst U) (RgX A mst U 6) (rgI_still A mst U _ (by omega)).own (rgI_still A mst U _ (by omega)) (fun c => (rgX_still A mst U 6 _ (by omega) c).own) (fun c => rgX_still A mst U 6 _ (by omega) c) hI0
    (fun x => { tmps := (List.toArray (v0 :: v1 :: v2 :: (.pointer (some ⟨w.heap.size, 0, none⟩)) :: (.pointer (some ⟨w.heap.size + 1, 0, none⟩)) :: v5 :: v6 :: (.pointer (some ⟨bw, 0, none⟩)) :: (.pointer (some ⟨bs, 0, none⟩)) :: v9 :: v10 :: v11 :: (.pointer (some ⟨A.heap.size, 0, none⟩)) :: (.int .i64 x) :: v14 :: v15 :: v16 :: v17 :: v18 :: v19 :: v20 :: v21 :: v22 :: v23 :: v24 :: v25 :: v26 :: v27 :: v28 :: v29 :: v30 :: v31 :: v32 :: v33 :: v34 :: v35 :: v36 :: v37 :: v38 :: v39 :: v40 :: v41 :: v42 :: v43 :: v44 :: v45 :: v46 :: v47 :: v48 :: v49 :: v50 :: v51 :: v52 :: v53 :: v54 :: v55 :: v56 :: v57 :: v58 :: v59 :: v60 :: v61 :: v62 :: v63 :: v64 :: v65 :: v66 :: v67 :: v68 :: v69 :: v70 :: v71 :: v72 :: v73 :: v74 :: v75 :: v76 :: (.func (.func 29) #[] #[.pointer (some ⟨bx, 0, none⟩)]) :: (.int .i64 x) :: v79 :: v80 :: v81 :: v82 :: v83 :: v84 :: v85 :: v86 :: v87 :: v88 :: v89 :: v90 :: v91 :: v92 :: v93 :: v94 :: v95 :: v96 :: v97 :: v98 :: v99 :: v100 :: v101 :: v102 :: v103 :: v104 :: v105 :: v106 :: v107 :: v108 :: v109 :: v110 :: v111 :: v112 :: v113 :: v114 :: v115 :: v116 :: v117 :: v118 :: v119 :: v120 :: v121 :: v122 :: v123 :: v124 :: v125 :: v126 :: [])), defers := [] }) ?assign ?body ?done ?stop
  case assign =>
    clear hn hx hb0 hI0 hW0 hsz hB
    intro l x W K hK
    gi_wp2
    exact hK
  case done =>
    rintro d xs W hd rfl ⟨h1, h2, h3, h4⟩ hK
    exact hn d W (by omega) h3 hK h1 h4
  case stop =>
    rintro d c pre W hd hp hX hK
    rcases hX with ⟨rfl, hX⟩ | ⟨rfl, h1, h2⟩
    · exact absurd hp hX
    · exact wpIn_exit (hx d W (by omega) h2 hK h1)
  case body =>
    clear hn hx hI0 hW0
    rintro l pre x W hl ⟨r₀, hlr⟩ ⟨h1, h2, h3, h4⟩ hlen
    have hBW := hB.below h3
    have hW : Hid (Bas w W hi2 bw bs lo hi bx uc mst ua U Qs ∧ pre <+: U ∧ Below A.heap.size A W ∧ (pre.length : Int) < mst ∧ Boxed W A.heap.size 3 (.int .i64 (pre.length : Int)) ∧ A.heap.size + 1 = W0.heap.size ∧ hi ≤ A.heap.size ∧ w.heap.size + 2 ≤ A.heap.size) := ⟨hBW, h2, h3, h4, h1, hsz.symm, hhi, by have := hBW.2.2.2.2.2.2.2; have := hB.2.2.1.1.lt; have := hB.2.2.1.2; omega⟩
    have cm := hBW.1.cell
    have cr := hBW.2.1.cell
    have fr := hBW.2.1.frozen
    have cw := hBW.2.2.1.1.cell
    have cs := hBW.2.2.2.2.1.1.cell
    have cn := h1.cell
    have fn := h1.frozen
    have p0 : (0 : Int) ≤ (pre.length : Int) := Int.natCast_nonneg _
    have u0 : (0 : Int) ≤ (U.length : Int) := Int.natCast_nonneg _
    have ul : (U.length : Int) ≤ 1048576 := by omega
    obtain ⟨p, hp⟩ : ∃ p, pre.length = p := ⟨_, rfl⟩
    obtain ⟨u, hu⟩ : ∃ u, U.length = u := ⟨_, rfl⟩
    rw [hp] at p0 cn h4
    rw [hu] at u0 ul cw
    have hKr : Hid (∀ v, KeepsFrom W0.heap.size W (W.setCell ⟨w.heap.size + 1, 0, none⟩ v)) := fun v => (KeepsOthers.setCell _ _ _).from _
    by_cases hlong : u ≤ p
    · have hl1 : (u : Int) ≤ (p : Int) := Int.ofNat_le.2 hlong
      have hX : Hid (¬ (pre ++ [x]) <+: U) := pre_long (by omega) x
      clear hW hBW h1 h2 h3 h4 hlen hl hlr hb0 hB hms hQl hU hhi hsz hlong
      gi_wp2
      exact ⟨hKr.out _, Or.inl ⟨rfl, hX.out⟩⟩
    · have hl1 : ¬ (u : Int) ≤ (p : Int) := fun e => hlong (Int.ofNat_le.1 e)
      have hl2 : (p : Int) < (u : Int) := by omega
      obtain ⟨ub, uo, eua, cu⟩ := hBW.2.2.2.1.1 p (by omega)
      subst eua
      by_cases hxe : x = U[p]
      · have hcx : W.cell? ⟨ub, uo + p, none⟩ = some (.int .i64 x) := by rw [hxe]; exact cu
        have hpp : Hid ((pre ++ [x]) <+: U ∧ pre.length = p ∧ U.length = u) := ⟨(pre_step h2 (by omega) x).2 (by subst hp; exact hxe), hp, hu⟩
        have hne : w.heap.size ≠ A.heap.size := by have := hW.out.2.2.2.2.2.2.2; omega
        have hEnd : Hid (∀ W', Below W.heap.size W W' → (W'.cell? ⟨A.heap.size, 0, none⟩ = some (.int .i64 (p : Int)) ∧ W'.frozen? ⟨A.heap.size, 0, none⟩ = false ∧ W'.cell? ⟨w.heap.size, 0, none⟩ = some (.int .i64 mst)) ∧ KeepsFrom W0.heap.size W (W'.setCell ⟨A.heap.size, 0, none⟩ (.int .i64 ((p : Int) + 1))) ∧ KpM hi W (W'.setCell ⟨A.heap.size, 0, none⟩ (.int .i64 ((p : Int) + 1))) ∧ Boxed (W'.setCell ⟨A.heap.size, 0, none⟩ (.int .i64 ((p : Int) + 1))) A.heap.size 3 (.int .i64 ((p : Int) + 1)) ∧ Below A.heap.size A (W'.setCell ⟨A.heap.size, 0, none⟩ (.int .i64 ((p : Int) + 1)))) := fun W' hb => by
          obtain ⟨q1, q2, q3, q4, q5, q6, q7, q8⟩ := hW.out
          rw [hp] at q5
          have hAs := q3.size
          have hAl := q5.lt
          have n1 : Boxed W' A.heap.size 3 (.int .i64 (p : Int)) := (hb.block _ hAl).trans q5
          have n2 : Boxed W' w.heap.size 3 (.int .i64 mst) := (hb.block _ q1.1.lt).trans q1.1
          exact ⟨⟨n1.cell, n1.frozen, n2.cell⟩, (keepsFrom_below hb).trans ((KeepsOthers.setCell _ _ _).from _), (kpM_below hb (by omega)).trans (kpM_set _ n1 q7), n1.set _, (q3.trans (hb.mono hAs)).setCell (Nat.le_refl _) _⟩
        by_cases h2p : (p : Int) < 2
        · have hb1 : Below W.heap.size W (W.alloc (.cells #[.int .i64 0] 3)) := (Below.refl _ _).alloc (Nat.le_refl _) _
          have csK := (hBW.below hb1).2.2.2.2.1.1.cell
          have hIn : Hid (hi ≤ W.heap.size ∧ Mrg (W.alloc (.cells #[.int .i64 0] 3)) lo hi bx Qs ∧ (W.alloc (.cells #[.int .i64 0] 3)).heap[l]? = some (.loop r₀) ∧ RgI W ((u : Int) + 1) U [] (W.alloc (.cells #[.int .i64 0] 3)) ∧ (W.alloc (.cells #[.int .i64 0] 3)).heap.size = W.heap.size + 1) := ⟨by have := h3.size; omega, (hBW.below hb1).2.2.2.2.2.1.1, (Below.heap_alloc _ _ _ (Array.getElem?_eq_some_iff.1 hlr).1).trans hlr, ⟨Boxed.new W _ _, List.nil_prefix, hb1, by simp <;> omega⟩, by simp⟩
          have hQh : Hid (Qs.length * 24 ≤ 140737488355328 ∧ IsU (lsts (some1 Qs)) U) := hQl
          have hm4 : Hid ((p : Int) < mst) := h4
          clear hb1 hBW h1 h2 h3 h4 hlen hl hlr hb0 hB hms hQl hU hhi hsz hlong hxe cu hp hu
          gi_wp2
          refine range_tn (T := TM) (l₀ := l) (r₀ := r₀) rfl hIn.out.2.2.1 (by omega) (gf := 29) (lb := #[.pointer (some ⟨bx, 0, none⟩)]) rfl trivial (enters_of Try.func29 (by kernel_rfl) rfl)
            ((merge_stops 5 (by omega) _ lo hi bx (tot (lsts Qs)) Qs U hIn.out.2.1 hQh.out.1 (Nat.le_refl _) hQh.out.2).inRound l) KpM.trans (KpM.book (by have := hIn.out; omega)) (Below.refl _ _) (fun _ => rfl)
            (RgI W ((u : Int) + 1) U) (fun c pre _ => c = .ret ∧ ¬ pre <+: U) (rgI_still W _ U _ (by have := hIn.out; omega)).own (rgI_still W _ U _ (by have := hIn.out; omega)) (fun _ _ _ _ _ hs _ _ => hs) (fun _ _ _ _ hs _ => hs) hIn.out.2.2.2.1
            (fun y => { tmps := (List.toArray (v0 :: v1 :: v2 :: (.pointer (some ⟨w.heap.size, 0, none⟩)) :: (.pointer (some ⟨w.heap.size + 1, 0, none⟩)) :: v5 :: v6 :: (.pointer (some ⟨bw, 0, none⟩)) :: (.pointer (some ⟨bs, 0, none⟩)) :: v9 :: v10 :: v11 :: (.pointer (some ⟨A.heap.size, 0, none⟩)) :: (.int .i64 x) :: (.pointer (some ⟨W.heap.size, 0, none⟩)) :: (.int .i64 y) :: v16 :: v17 :: v18 :: v19 :: v20 :: v21 :: v22 :: v23 :: v24 :: v25 :: v26 :: v27 :: v28 :: v29 :: v30 :: v31 :: v32 :: v33 :: v34 :: v35 :: v36 :: v37 :: v38 :: v39 :: v40 :: v41 :: v42 :: v43 :: v44 :: v45 :: v46 :: v47 :: v48 :: v49 :: v50 :: v51 :: v52 :: v53 :: v54 :: v55 :: v56 :: v57 :: v58 :: v59 :: v60 :: v61 :: v62 :: v63 :: v64 :: v65 :: v66 :: v67 :: v68 :: v69 :: v70 :: v71 :: v72 :: v73 :: v74 :: v75 :: v76 :: (.func (.func 29) #[] #[.pointer (some ⟨bx, 0, none⟩)]) :: (.int .i64 x) :: (.int .i64 (p : Int)) :: (.slice (some ⟨ub, uo, none⟩) u uc) :: (.int .i64 (u : Int)) :: (.bool false) :: (.bool false) :: (.int .i64 x) :: (.slice (some ⟨ub, uo, none⟩) u uc) :: (.int .i64 (p : Int)) :: (.pointer (some ⟨ub, uo + p, none⟩)) :: (.int .i64 x) :: (.bool false) :: (.bool false) :: (.int .i64 (p : Int)) :: (.bool true) :: (.func (.func 29) #[] #[.pointer (some ⟨bx, 0, none⟩)]) :: (.int .i64 y) :: v95 :: v96 :: v97 :: v98 :: v99 :: v100 :: v101 :: v102 :: v103 :: v104 :: v105 :: v106 :: v107 :: v108 :: v109 :: v110 :: v111 :: v112 :: v113 :: v114 :: v115 :: v116 :: v117 :: v118 :: v119 :: v120 :: v121 :: v122 :: v123 :: v124 :: v125 :: v126 :: [])), defers := [] }) ?assign ?body ?done ?stop
          case assign =>
            intro l' y W2 K hK
            gi_wp2
            exact hK
          case stop =>
            rintro c pre' W2 hpr ⟨_, hX⟩
            exact absurd hpr hX
          case body =>
            rintro l' pre' y W2 hl' hlr' ⟨h1, h2, h3, h4⟩ hlen'
            have hB2 := hW.out.1.below h3
            have ck := h1.cell
            have fk := h1.frozen
            have cr2 := hB2.2.1.cell
            have fr2 := hB2.2.1.frozen
            have cw2 := hB2.2.2.1.1.cell
            have q0 : (0 : Int) ≤ (pre'.length : Int) := Int.natCast_nonneg _
            obtain ⟨q, hq⟩ : ∃ q, pre'.length = q := ⟨_, rfl⟩
            have hu := hpp.out.2.2
            rw [hu] at cw2
            rw [hq] at ck q0 h4
            have hKr2 : Hid (∀ v, KeepsFrom (W.alloc (.cells #[.int .i64 0] 3)).heap.size W2 (W2.setCell ⟨w.heap.size + 1, 0, none⟩ v)) := fun v => (KeepsOthers.setCell _ _ _).from _
            have hsv : Hid (Boxed W2 W.heap.size 3 (.int .i64 (pre'.length : Int)) ∧ Below W.heap.size W W2) := ⟨h1, h3⟩
            by_cases hlong : u ≤ q
            · have hl2 : (u : Int) ≤ (q : Int) := Int.ofNat_le.2 hlong
              have hX : Hid (¬ (pre' ++ [y]) <+: U) := pre_long (by omega) y
              clear hB2 h1 h2 h3 h4 hlen' hl' hlr' hlong csK cm cr fr cw cs cn fn hcx hu hq
              gi_wp2
              exact ⟨(KeepsOthers.setCell _ _ _).from _, rfl, hX.out⟩
            · have hl2 : ¬ (u : Int) ≤ (q : Int) := fun e => hlong (Int.ofNat_le.1 e)
              have hl3 : (q : Int) < (u : Int) := by omega
              obtain ⟨ub', uo', eua, cu⟩ := hB2.2.2.2.1.1 q (by omega)
              injection eua with eua
              injection eua with eub euo
              subst eub euo
              by_cases hye : y = U[q]
              · have hcy : W2.cell? ⟨ub, uo + q, none⟩ = some (.int .i64 y) := by rw [hye]; exact cu
                have hpp2 : Hid ((pre' ++ [y]) <+: U ∧ pre'.length = q ∧ q < u) := ⟨(pre_step h2 (by omega) y).2 (by subst hq; exact hye), hq, by omega⟩
                clear hB2 h1 h2 h3 h4 hlen' hl' hlr' hlong csK cm cr fr cw cs cn fn hcx hu hq hye cu
                gi_wp2
                obtain ⟨h1, h3⟩ := hsv.out
                obtain ⟨g1, g2, g3⟩ := hpp2.out
                refine ⟨(KeepsOthers.setCell _ _ _).from _, kpM_set _ h1 hIn.out.1, ?_, g1, h3.setCell (Nat.le_refl _) _, ?_⟩
                · rw [List.length_append, g2]; exact h1.set _
                · rw [List.length_append, g2]; simp; omega
              · have hX : Hid (¬ (pre' ++ [y]) <+: U) := fun e => hye (by have := (pre_step h2 (by omega) y).1 e; subst hq; exact this)
                obtain ⟨z, hz⟩ : ∃ z, U[q] = z := ⟨_, rfl⟩
                rw [hz] at hye cu
                clear hB2 h1 h2 h3 h4 hlen' hl' hlr' hlong csK cm cr fr cw cs cn fn hcx hu hq hz
                gi_wp2
                exact ⟨(KeepsOthers.setCell _ _ _).from _, rfl, hX.out⟩
          case done =>
            rintro xs W2 hxs ⟨h1, h2, h3, h4⟩
            have hB2 := hW.out.1.below h3
            have hu := hpp.out.2.2
            have cw2 := hB2.2.2.1.1.cell
            have ck := h1.cell
            rw [hu] at cw2
            rw [hxs, hu] at ck
            obtain ⟨⟨cn2, fn2, cm2⟩, e4, e5, e6, e7⟩ := hEnd.out W2 h3
            have hE : Hid (KeepsFrom W0.heap.size W (W2.setCell ⟨A.heap.size, 0, none⟩ (.int .i64 ((p : Int) + 1))) ∧ KpM hi W (W2.setCell ⟨A.heap.size, 0, none⟩ (.int .i64 ((p : Int) + 1))) ∧ Boxed (W2.setCell ⟨A.heap.size, 0, none⟩ (.int .i64 ((p : Int) + 1))) A.heap.size 3 (.int .i64 ((p : Int) + 1)) ∧ Below A.heap.size A (W2.setCell ⟨A.heap.size, 0, none⟩ (.int .i64 ((p : Int) + 1)))) := ⟨e4, e5, e6, e7⟩
            by_cases hme : (p : Int) + 1 = mst
            · clear hEnd e4 e5 e6 e7 hB2 h1 h2 h3 h4 hu csK cm cr fr cw cs cn fn hcx hW
              gi_wp2
              obtain ⟨e4, e5, e6, e7⟩ := hE.out
              rw [hme] at e4 e5 e6 e7
              exact ⟨e4, Or.inr ⟨rfl, e6, e7⟩⟩
            · clear hEnd e4 e5 e6 e7 hB2 h1 h2 h3 h4 hu csK cm cr fr cw cs cn fn hcx hW
              gi_wp2
              obtain ⟨e4, e5, e6, e7⟩ := hE.out
              refine ⟨e4, e5, ?_, hpp.out.1, e7, ?_⟩
              · rw [List.length_append, hpp.out.2.1]; exact e6
              · rw [List.length_append, hpp.out.2.1]; have := hm4.out; simp; omega
        · obtain ⟨⟨_, _, _⟩, e4, e5, e6, e7⟩ := hEnd.out W (Below.refl _ _)
          have hE : Hid (KeepsFrom W0.heap.size W (W.setCell ⟨A.heap.size, 0, none⟩ (.int .i64 ((p : Int) + 1))) ∧ KpM hi W (W.setCell ⟨A.heap.size, 0, none⟩ (.int .i64 ((p : Int) + 1))) ∧ Boxed (W.setCell ⟨A.heap.size, 0, none⟩ (.int .i64 ((p : Int) + 1))) A.heap.size 3 (.int .i64 ((p : Int) + 1)) ∧ Below A.heap.size A (W.setCell ⟨A.heap.size, 0, none⟩ (.int .i64 ((p : Int) + 1)))) := ⟨e4, e5, e6, e7⟩
          have hm4 : Hid ((p : Int) < mst) := h4
          by_cases hme : (p : Int) + 1 = mst
          · clear hEnd e4 e5 e6 e7 hW hBW h1 h2 h3 h4 hlen hl hlr hb0 hB hms hQl hU hhi hsz hlong hxe cu hp hu
            gi_wp2
            obtain ⟨e4, e5, e6, e7⟩ := hE.out
            rw [hme] at e4 e5 e6 e7
            exact ⟨e4, Or.inr ⟨rfl, e6, e7⟩⟩
          · clear hEnd e4 e5 e6 e7 hW hBW h1 h2 h3 h4 hlen hl hlr hb0 hB hms hQl hU hhi hsz hlong hxe cu hp hu
            gi_wp2
            obtain ⟨e4, e5, e6, e7⟩ := hE.out
            refine ⟨e4, e5, ?_, hpp.out.1, e7, ?_⟩
            · rw [List.length_append, hpp.out.2.1]; exact e6
            · rw [List.length_append, hpp.out.2.1]; have := hm4.out; simp; omega
      · have hX : Hid (¬ (pre ++ [x]) <+: U) := fun e => hxe (by have := (pre_step h2 (by omega) x).1 e; subst hp; exact this)
        obtain ⟨y, hy⟩ : ∃ y, U[p] = y := ⟨_, rfl⟩
        rw [hy] at hxe cu
        clear hW hBW h1 h2 h3 h4 hlen hl hlr hb0 hB hms hQl hU hhi hsz hlong hy
        gi_wp2
        exact ⟨hKr.out _, Or.inl ⟨rfl, hX.out⟩⟩
end Go.Proofs.Ytmkmfnbjmakebaa
